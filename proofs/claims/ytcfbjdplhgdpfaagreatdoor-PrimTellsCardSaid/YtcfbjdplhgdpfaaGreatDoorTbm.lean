import Derived.Test.YtcfbjdplhgdpfaaGreatDoorTbg
set_option maxHeartbeats 3200000
set_option maxRecDepth 100000
namespace Go.Proofs.YtcfbjdplhgdpfaaGreatDoor
set_option linter.unusedVariables false
set_option linter.unusedSimpArgs false
theorem xGl {P:Prop}(h:P:=by first|exact Bz.d _ _|exact Bz.e _ _|exact Bz.f _ _|exact Bz.g _ _|exact Bz.h _ _|exact Bz.i _ _|exact Bz.j _ _|exact Bz.k _ _|exact Bz.a _|exact Bz.b _|exact Bz.c _|exact Bz.l _):P:=h
abbrev yZ:=@List.getElem?_tail
open Go.RowKit
theorem zE4 {l:List Int} {x:Int} {k:Nat} (h0:1≤k) (hk:k<l.length):yS9 (x::l.tail.take (k+1-1))=yS9 (x::l.tail.take (k-1))++[.int .i64 (l.getD k 0)]:=by
 obtain⟨j,rfl⟩:∃j,k=j+1:=⟨k-1,by omega⟩
 have e:l.tail.take (j+1)=l.tail.take j++[l.getD (j+1) 0]:=by
  rw[zK3 (by rw[yY];omega)];congr 2
  simp[yJ,yZ]
 show yS9 (x::l.tail.take (j+1))=yS9 (x::l.tail.take j)++_;rw[e];simp[yS9]
theorem zF4 {T:List Int} {x:Int} {k:Nat} (hk:k<T.length):yS9 (x::T.take (k+1))=yS9 (x::T.take k)++[.int .i64 (T.getD k 0)]:=by
 rw[zK3 hk];simp[yS9]
def zG4 (l:List Int) (W:World) (e:Ending) (W':World):Prop:=∃a n c,e=.returned (.agg #[.slice a n c,.slice none 0 0])∧Sl W' a n l∧n≤c∧c≤maxLen∧Below W.heap.size W W'
theorem zH4 {a b:Option Addr} {n c m d:Nat} {l:List Int} (W:World) (h:Sl W a n l) (h0:0<n) (hn:n≤20) (k:Int):
 Calls Tryz.prog 84 #[.agg #[.slice a n c,.slice b m d],.int .i64 k] W (zG4 (k::l.tail) W):=by
 have hl:=h.1;have HS:=zC h;clear h;have hh:=xO3 W a n c b m d;go_in;go_wp2_with fail;obtain⟨w1,hw1⟩:∃z,z=(W.alloc (.cells #[.slice a n c,.slice b m d] 25)).alloc (.cells #[.slice none 0 0,.slice none 0 0] 25):=⟨_,rfl⟩
 have hs1:w1.heap.size=W.heap.size+1+1:=by rw[hw1];simp
 rw[←hw1]at hh ⊢;have hR0:=hh.out.1;have hV0:=hh.out.2.1;have hb0:=hh.out.2.2;have ho0:=(yKb w1 k).alloc (.cells #[.slice (some ⟨w1.heap.size,0,none⟩) 1 1,.slice none 0 0] 25);have hO0:=Bx.newG (w1.alloc (.cells #[.int .i64 k] 3)) (W.heap.size+3) (by simp[hs1]) (some ⟨w1.heap.size,0,none⟩) 1 1 none 0 0;have hb1:Below W.heap.size W ((w1.alloc (.cells #[.int .i64 k] 3)).alloc (.cells #[.slice (some ⟨w1.heap.size,0,none⟩) 1 1,.slice none 0 0] 25)):=(hb0.alloc hb0.size _).alloc (by simp[hs1];omega) _;replace hV0:=(hV0.alloc (.cells #[.int .i64 k] 3)).alloc (.cells #[.slice (some ⟨w1.heap.size,0,none⟩) 1 1,.slice none 0 0] 25);replace hR0:=(hR0.alloc (.cells #[.int .i64 k] 3)).alloc (.cells #[.slice (some ⟨w1.heap.size,0,none⟩) 1 1,.slice none 0 0] 25);clear hh hb0 hw1;rw[hs1]at*;go_loopw [6] (fun iv wr=>∃(i:Nat) (av:Option Addr) (cv:Nat),iv=.int .i64 (i:Int)∧1≤i∧i≤n∧Bx wr (W.heap.size+1) none 0 0 none 0 0∧Bx wr W.heap.size a n c b m d∧Bx wr (W.heap.size+3) av i cv none 0 0∧wr.ownsRow (W.heap.size+1+1) 3 1 (.slice av i cv) i (yS9 (k::l.tail.take (i-1)))∧Below W.heap.size W wr) (fun iv _=>n-(intOf iv).toNat)
 case atStart=>exact⟨1,some ⟨W.heap.size+1+1,0,none⟩,1,rfl,zR _,by omega,hR0,hV0,hO0,ho0,hb1⟩
 case round=>
  obtain⟨i,av,cv,rfl,hi1,hi,hR,hV,hO,ho,hb⟩:=hrel;clear hR0 hV0 hO0 ho0 hb1;have v0:=hV.c0;by_cases hlt:i<n
  · have e2:(i:Int)<(n:Int):=by omega
    have HN:=zC (zE4 (l:=l) (x:=k) (k:=i) hi1 yEn);obtain⟨bb,off,rfl,hc⟩:=HS.out.2 yEn;have hck:=(hb.cell (p:=⟨bb,off+i,none⟩) (yU W _ (hc i hlt))).trans (hc i hlt);clear hc;generalize l.getD i 0=x at*;have u0:=hO.c0;have lO:=hO.lt;have HR:=zC hR;have HV:=zC hV;have HO:=zC hO;have HW:=zC ho;have HB:=zC hb;clear hR hV hO ho hb;go_wp2_with fail;go_region_law (refine xOg wr (W.heap.size+1+1) (.tmp 18) (.tmp 24) av i cv _ x rfl rfl rfl rfl rfl rfl rfl rfl HW.out yEn yEn ?_;intro av' cv' w9 hown9 hg9 _;have hO9:=Bx.grownV HW.out yCn hg9 HO.out;have z1:=hO9.c0;have g2:=hO9.f 0)
    all_goals
     rw[←HN.out]at hown9;have hb10:=HB.out.trans ((xNg HW.out hg9 yEn).mono yEn);have hR9:=Bx.grownV HW.out yCn hg9 HR.out;have hV9:=Bx.grownV HW.out yCn hg9 HV.out;have hO11:=zC (hO9.set0 av' (i+1) cv');have hr11:=zC (xMg hown9 yCn hO9 0 (.slice av' (i+1) cv'));have hR11:=zC (hR9.setOther (p:=⟨W.heap.size+3,0,none⟩) yHn (.slice av' (i+1) cv'));have hV11:=zC (hV9.setOther (p:=⟨W.heap.size+3,0,none⟩) yHn (.slice av' (i+1) cv'));have hb11:=zC (hb10.setCell (p:=⟨W.heap.size+3,0,none⟩) (show W.heap.size≤W.heap.size+3 by omega) (.slice av' (i+1) cv'));clear hO9 hg9 hown9 hb10 u0 z1 g2 hR9 hV9 HO HR HV HW HB v0;go_wp2_with fail;go_roundw
     case rel=>exact⟨i+1,av',cv',by go_num,by omega,by omega,hR11.out,hV11.out,hO11.out,hr11.out,hb11.out⟩
     case measure=>simp[intOf];omega
  · have e2:¬(i:Int)<(n:Int):=by omega
    obtain rfl:i=n:=by omega
    have x0:=hO.c0;have x1:=hO.c1;have hsl:=zC (zYf ho);rw[yW (by rw[yY];omega)]at hsl;have hcp:=zC (xE8 ho);clear hO ho;have y0:=hR.c0;have y3:=hR.c1;have f0:=hR.f 0;have f1:=hR.f 1;go_wp2_with fail;have hS:=hR.set av i cv none 0 0;have r0:=hS.c0;have r1:=hS.c1;exact zE (v:=.agg #[.slice av i cv,.slice none 0 0]) (by simp[results,Tryz.results84,go_sem,r0,r1]) rfl ⟨_,_,_,rfl,hR.sl hsl.out _ _,hcp.out.1,hcp.out.2,yJ4 hb yEn _ _⟩
theorem zI4 {a b:Option Addr} {n c m d:Nat} {l:List Int} {es:List ByteArray} (W:World) (h:Vl W a n b m l es) (h0:0<n) (hn:n≤20) (k:Int):
 Calls Tryz.prog 84 #[.agg #[.slice a n c,.slice b m d],.int .i64 k] W (yIb (k::l.tail) [] W):=
 (zH4 W h.s h0 hn k).mono fun _ _ ⟨a,n,c,h1,h2,h3,h4,h5⟩=>⟨a,n,c,none,0,0,h1,⟨h2,St.nil _ _,by omega⟩,⟨h3,h4,by omega,by unfold maxLen;omega⟩,h5⟩
theorem St.grown_far {w w':World} {b:Option Addr} {m:Nat} {es:List ByteArray} {row:Option Nat} (h:St w b m es) (hg:w.grownBy w' row) (hne:∀p,b=some p→0<m→some p.block≠row):St w' b m es:=
 ⟨h.1,fun h0=>by
   obtain⟨bb,off,e,hc⟩:=h.2 h0;exact⟨bb,off,e,fun j hj=>(hg.cell_far ⟨bb,off+j,none⟩ (yU w _ (hc j hj)) (show some bb≠row from hne _ e h0)).trans (hc j hj)⟩⟩
theorem Sl.grown_far {w w':World} {b:Option Addr} {m:Nat} {es:List Int} {row:Option Nat} (h:Sl w b m es) (hg:w.grownBy w' row) (hne:∀p,b=some p→0<m→some p.block≠row):Sl w' b m es:=
 ⟨h.1,fun h0=>by
   obtain⟨bb,off,e,hc⟩:=h.2 h0;exact⟨bb,off,e,fun j hj=>(hg.cell_far ⟨bb,off+j,none⟩ (yU w _ (hc j hj)) (show some bb≠row from hne _ e h0)).trans (hc j hj)⟩⟩
def ICut (T:List Int) (X:List ByteArray) (wz:World) (p q:Value) (wx:World):Prop:=
 ∃g a n c b m d,p=.pointer (some ⟨g,0,none⟩)∧q=.bool true∧Bx wx g a n c b m d∧Vl wx a n b m T X∧wz.heap.size≤g∧(∀p,b=some p→wz.heap.size≤p.block)∧Below wz.heap.size wz wx
theorem ICut.new {T:List Int} {X:List ByteArray} {wz wb:World} {a b:Option Addr} {n c m d:Nat} (hb:Below wz.heap.size wz wb) (hv:Vl wb a n b m T X) (hf:∀p,b=some p→wz.heap.size≤p.block):ICut T X wz (.pointer (some ⟨wb.heap.size,0,none⟩)) (.bool true) (wb.alloc (.cells #[.slice a n c,.slice b m d] 25)):=
 have h1:Below wb.heap.size wb (wb.alloc (.cells #[.slice a n c,.slice b m d] 25)):=(zI _ _).alloc (zR _) _
 ⟨_,a,n,c,b,m,d,rfl,rfl,Bx.new _ _ _ _ _ _ _,hv.below h1,hb.size,hf,hb.alloc hb.size _⟩
theorem ICut.set {T:List Int} {X:List ByteArray} {wz wb:World} {a b:Option Addr} {g n c m d:Nat} (hb:Below wz.heap.size wz wb) (hv:Vl wb a n b m T X) (hf:∀p,b=some p→wz.heap.size≤p.block) (hZ:Bx wb g none 0 0 none 0 0) (h3:wz.heap.size≤g):ICut T X wz (.pointer (some ⟨g,0,none⟩)) (.bool true) ((wb.setCell ⟨g,0,none⟩ (.slice a n c)).setCell ⟨g,1,none⟩ (.slice b m d)):=
 ⟨_,a,n,c,b,m,d,rfl,rfl,hZ.set _ _ _ _ _ _,⟨hZ.sl hv.s _ _,hZ.st hv.t _ _,hv.mm⟩,h3,hf,(hb.setCell h3 _).setCell h3 _⟩
theorem zJ4 (es:List ByteArray) (K:Nat) {L:List Nat} {j:Nat} (hj:j<L.length):its es K (L.take (j+1))=its es K (L.take j)++yU4 es K (L.getD j 0):=by
 have e:L.take (j+1)=L.take j++[L.getD j 0]:=by rw[yH,yJ,yM hj];rfl
 rw[e,xY9];show _++((es.drop (L.getD j 0*K)).take K++its es K [])=_;rw[show its es K []=([]:List ByteArray)from rfl,xL];rfl
theorem zK4 (L:List Nat) {j:Nat} (hj:j<L.length):(L.map fun i:Nat=>(i:Int)).getD j 0=((L.getD j 0:Nat):Int):=by
 simp[yJ,yM hj]
theorem zL4 {a1 b1:Option Addr} {n1 c1 m1 d1:Nat} {l:List Int} {es:List ByteArray} {W:World} {q:Ar} (h1:Av W a1 n1 c1 b1 m1 d1 l es (some q)) (h0:0<n1) {a2:Option Addr} {n2 c2:Nat} {L:List Nat} (hL:Sl W a2 n2 (L.map fun i:Nat=>(i:Int))) (hb:∀j,j<n2→L.getD j 0<nI l) (h4:n2*kI l≤4096) (hn2:n2≤1000000):
 Calls Tryz.prog 63 #[.agg #[.slice a1 n1 c1,.slice b1 m1 d1],.slice a2 n2 c2] W (yIb ((n2:Int)::l.tail) (its es (kI l) L) W):=by
 have hl:l≠[]:=by
  rintro rfl;have:=h1.v.s.1;simp at this
  omega
 have hn3:=h1.n3;have hT:l.tail.length=n1-1:=by rw[yY,h1.v.s.1]
 have hLn:L.length=n2:=by have:=hL.1;rwa [zD0]at this
 have hit:=h1.items;rw[xLc hl]at hit;have KI:=zC (fun w (hb:Below W.heap.size W w)=>zAi a1 n1 c1 l w (h1.v.s.below hb) yEn h1.c.1 h1.c.2);have KT:=zC (fun w (hb:Below W.heap.size W w) i (hi:i<nI l)=>xTg (h1.below hb) h0 hi);have HS:=zC (fun j (hj:j<n2)=>And.intro (zJ4 es (kI l) (L:=L) (j:=j) yEn) (And.intro (zAa (es:=es) (k:=kI l) (n:=nI l) (by rw[h1.v.t.1];exact hit.1) (l:=L.take j) (fun i hi=>by
  obtain⟨t,ht,rfl⟩:=yP hi;rw[xP]at ht;have:=hb t yEn;rw[yJ,yM yEn]at this;simpa using this)) (yV4 (es:=es) (k:=kI l) (i:=L.getD j 0) (by rw[h1.v.t.1,hit.1];exact xE _ (hb j hj)))))
 have HB:=zC hb;have HA:=zC hL;have HL:=zC hLn;have HT:=zC hT;have HLEN:=zC (show(its es (kI l) L).length≤1000000 by
  have e:=zAa (es:=es) (k:=kI l) (n:=nI l) (by rw[h1.v.t.1];exact hit.1) (l:=L) (fun i hi=>by
   obtain⟨t,ht,rfl⟩:=yP hi;have:=hb t yEn;rw[yJ,yM yEn]at this;simpa using this)
  rw[e,hLn];omega)
 have h4':∀j,j<n2→(j+1)*kI l≤4096:=fun j hj=>xN (xE _ hj) h4;have H4:=zC h4';clear h1 hit hl hb hL hLn hT h4 h4';generalize itV l=V at*;generalize l.tail=T at*;generalize kI l=K at*;generalize nI l=N at*;have h:=xO3 W a1 n1 c1 b1 m1 d1;go_in;have x1:=h.out.2.1.c0;go_wp2_with fail
 with_reducible refine(xKg h (KI.out _ h.out.2.2)).mono ?_
 clear h x1 KI;rintro e w ⟨ar,nr,cr,rfl,h,hr20⟩;go_wp2_with fail;have ho0:=(yKb w (n2:Int)).alloc (.cells #[.slice (some ⟨w.heap.size,0,none⟩) 1 1,.slice none 0 0] 25);have hO0:=Bx.newG (w.alloc (.cells #[.int .i64 (n2:Int)] 3)) (w.heap.size+1) yHn (some ⟨w.heap.size,0,none⟩) 1 1 none 0 0;have hb0:Below w.heap.size w ((w.alloc (.cells #[.int .i64 (n2:Int)] 3)).alloc (.cells #[.slice (some ⟨w.heap.size,0,none⟩) 1 1,.slice none 0 0] 25)):=((zI _ _).alloc (zR _) _).alloc yHn _;have HRT:=zC h.out.1.1;have HLV:=h;go_loopw [8] (fun iv wr=>∃(i:Nat) (av:Option Addr) (cv:Nat),iv=.int .i64 i∧i≤nr∧Bx wr (w.heap.size+1) av (i+1) cv none 0 0∧wr.ownsRow w.heap.size 3 1 (.slice av (i+1) cv) (i+1) (yS9 ((n2:Int)::T.take i))∧Below w.heap.size w wr) (fun iv _=>nr-(intOf iv).toNat)
 case atStart=>exact⟨0,some ⟨w.heap.size,0,none⟩,1,rfl,by omega,hO0,ho0,hb0⟩
 case round=>
  obtain⟨i,av,cv,rfl,hi,hO,ho,hb⟩:=hrel;clear hO0 ho0 hb0 h;have h:=xLg HLV hb (zR _);by_cases hlt:i<nr
  · have e2:(i:Int)<(nr:Int):=by omega
    have HN:=zC (zF4 (T:=T) (x:=(n2:Int)) (k:=i) (by rw[HRT.out];exact hlt));obtain⟨bb,off,rfl,hc⟩:=h.out.1.2 yEn;have hck:=hc i hlt;clear hc;generalize T.getD i 0=x at*;have u0:=hO.c0;have lO:=hO.lt;have HO:=zC hO;have HW:=zC ho;have HB2:=zC hb;clear hO ho hb h;go_wp2_with fail;go_region_law (refine xOg wr w.heap.size (.tmp 30) (.tmp 35) av (i+1) cv _ x rfl rfl rfl rfl rfl rfl rfl rfl HW.out yEn yEn ?_;intro av' cv' w9 hown9 hg9 _;have hO9:=Bx.grownV HW.out yCn hg9 HO.out;have z1:=hO9.c0;have g2:=hO9.f 0)
    all_goals
     rw[←HN.out]at hown9;have hb10:=HB2.out.trans (xNg HW.out hg9 yEn);have hO11:=zC (hO9.set0 av' (i+1+1) cv');have hr11:=zC (xMg hown9 yCn hO9 0 (.slice av' (i+1+1) cv'));have hb11:=zC (hb10.setCell (p:=⟨w.heap.size+1,0,none⟩) (show w.heap.size≤w.heap.size+1 by omega) (.slice av' (i+1+1) cv'));clear hO9 hg9 hown9 hb10 u0 z1 g2 HO HW HB2 hck;go_wp2_with fail;go_roundw
     case rel=>exact⟨i+1,av',cv',by go_num,by omega,hO11.out,hr11.out,hb11.out⟩
     case measure=>simp[intOf];omega
  · have e2:¬(i:Int)<(nr:Int):=by omega
    obtain rfl:i=nr:=by omega
    rw[yW (by rw[HRT.out];exact zR _)]at ho;have hsl:=zYf ho;have hcp:=zC (xE8 ho);obtain⟨B2,hB2⟩:∃B2,B2=wr.heap.size:=⟨_,rfl⟩
    have hsb:Hid (∀p,av=some p→p.block<B2):=zC fun p hp=>by rw[hB2];exact(ho.lt p.block (by rw[hp];rfl)).2
    have hgb:w.heap.size+1<B2:=by rw[hB2];exact hO.lt
    obtain⟨SH,hSH⟩:∃SH,SH=(n2:Int)::T:=⟨_,rfl⟩
    rw[←hSH]at hsl;have HSH:=zC hSH;have hB3:B2≤wr.heap.size:=by omega
    clear ho hi hlt hSH hB2;have x1:=hO.c1;go_wp2_with fail;go_loopw [9] (fun iv wr=>∃(j:Nat) (bv:Option Addr) (dv:Nat),iv=.int .i64 j∧j≤n2∧Bx wr (w.heap.size+1) av (i+1) cv bv (its es K (L.take j)).length dv∧wr.ownsRow B2 9 1 (.slice bv (its es K (L.take j)).length dv) (its es K (L.take j)).length (zTf (its es K (L.take j)))∧Sl wr av (i+1) SH∧Below w.heap.size w wr∧B2≤wr.heap.size) (fun iv _=>n2-(intOf iv).toNat)
    case atStart=>exact⟨0,none,0,rfl,by omega,hO,zT _ _ _ _,hsl,hb,hB3⟩
    case round=>
     obtain⟨j,bv,dv,rfl,hj,hO1,ho1,hS1,hb1,hB1⟩:=hrel;clear hO x1 hsl hb hB3 h;have h:=xLg HLV hb1 (zR _);by_cases hlt:j<n2
     · have e2:(j:Int)<(n2:Int):=by omega
       obtain⟨bl,ol,rfl,hcl⟩:=HA.out.2 yEn;have hck:=(h.out.2.2.2.cell (p:=⟨bl,ol+j,none⟩) (yU W _ (hcl j hlt))).trans (hcl j hlt);rw[zK4 L xTm]at hck;obtain⟨hst,hp1,hp2⟩:=HS.out j hlt;have hi0:=HB.out j hlt;have h41:=H4.out j hlt;rw[xP,HL.out,xR (xT hlt)]at hp1;have KT2:=KT.out;generalize L.getD j 0=i0 at*;clear hcl;obtain⟨P,hP⟩:∃P,P=its es K (L.take j):=⟨_,rfl⟩
       obtain⟨X,hX⟩:∃X,X=yU4 es K i0:=⟨_,rfl⟩
       rw[←hP]at hO1 ho1 hst hp1;rw[←hX]at hst hp2;have Q1:Hid (∀z,Below wr.heap.size wr z→Calls Tryz.prog 86 #[.agg #[.slice a1 n1 c1,.slice b1 m1 d1],.int .i64 (i0:Int)] z fun e w'=>∃a n c b m d,e=.returned (.tuple #[.agg #[.slice a n c,.slice b m d],.bool true])∧Vl w' a n b m T X∧(∀p,b=some p→wr.heap.size≤p.block)∧Below wr.heap.size wr w'∧Below z.heap.size z w'):=zC fun z hz=>(KT2 z (h.out.2.2.2.trans (hz.mono h.out.2.2.2.size)) i0 hi0).mono fun e w' k=>by
        obtain⟨a,n,c,b,m,d,k1,k2,k3,k4⟩:=k;exact⟨a,n,c,b,m,d,k1,by rw[hX];exact k2,fun p hp=>xN hz.size (k4 p hp),hz.trans (k3.mono hz.size),k3⟩
       have HST:=zC (And.intro hst (And.intro hp1 hp2));have hC4:P.length+K≤4096:=by rw[hp1];rw[xV,xY]at h41;exact h41
       clear hst hp1 hp2 hi0 h41 hP hX KT2;have lck:=yU wr _ hck;have uv:=h.out.2.2.1.c0;have vv:=h.out.2.2.1.c1;have lv:=h.out.2.2.1.lt;have HO:=zC hO1;have HW:=zC ho1;have HS1:=zC hS1;have HBW:=zC hb1;have hq:Below wr.heap.size wr wr:=zI _ _;have hqz:=hq.size;clear hO1 ho1 hS1 hb1 h;go_wp2_with fail;go_cut [10,11]from 38 to 69 (fun p q wx=>ICut T X wr p q wx)
       case first=>
        go_region_held3 (fun w'=>w'.cell? ⟨W.heap.size,0,none⟩=some (.slice a1 n1 c1)∧w'.cell? ⟨W.heap.size,1,none⟩=some (.slice b1 m1 d1)∧w'.cell? ⟨bl,ol+j,none⟩=some (.int .i64 (i0:Int)))
         (first|exact⟨(zA0 (p:=⟨W.heap.size,0,none⟩) xJl lv).trans uv,(zA0 (p:=⟨W.heap.size,1,none⟩) xJl lv).trans vv,(zA0 (p:=⟨bl,ol+j,none⟩) xJl lck).trans hck⟩|fail)
         (first
           |(go_at_call 86;(with_reducible refine(Q1.out _ xJl).mono ?_);rintro e wa ⟨a',n',c',b',m',d',rfl,hv',hf',hq,hr⟩;have hqz:=hq.size;(try(have hZ1:=Bx.on xGl hr;have y0:=hZ1.c0;have y1:=hZ1.c1;have g0:=hZ1.f 0;have g1:=hZ1.f 1)))
           |fail)
        all_goals
         go_wp2_with fail;go_meet
         case rel=>with_reducible first|exact ICut.new hq hv' hf'|(refine ICut.set hq hv' hf' hZ1 ?_<;>first|exact zR _|exact hqz|omega|(simp;done)|(simp;omega))
       case rest=>
        clear hq hqz Q1 uv vv lv hck lck;obtain⟨gx,ax,nx,cx,bx,mx,dx,rfl,rfl,hX,hV,hgx,hfx,hbc⟩:=hcut;have HJ:=zC hlt;clear hlt e2 hj;have hbX:B2≤wc.heap.size:=xN hB1 hbc.size;have hbW:=HBW.out.trans (hbc.mono HBW.out.size);have hOX:=HO.out.below hbc HO.out.lt;have hWX:=zLe HW.out hbc;have hSX:=HS1.out.below hbc;have hown:∀q,(Value.slice bv P.length dv).ownBlock=some q→q<wr.heap.size∨wc.heap.size≤q:=fun q hq=>.inl (HW.out.lt q hq).2;have HVX:=zC hV;have hm:mx=K:=by rw[←HST.out.2.2];exact hV.t.1.symm
        subst hm;have HFX:=zC hfx;have hgne:w.heap.size+1≠gx:=by have:=HO.out.lt;omega
        have hX1:=hX.c1;obtain⟨C,hC⟩:∃C,C=P.length:=⟨_,rfl⟩
        rw[←hC]at hOX hWX hown hC4;have HC:=zC hC;have hWX2:wc.ownsRow B2 9 1 (.slice bv (C+0) dv) (C+0) (zTf (P++X.take 0)):=by rw[xK,xL];exact hWX
        generalize hHZ:wr.heap.size=HZ at*;have HXS:=zC hHZ;clear hWX HO HW HS1 HBW hC hHZ hfx hbc hB1 hV;go_wp2_with fail;go_loopw [12] (fun iv w3=>∃(k:Nat) (bv:Option Addr) (dv:Nat),iv=.int .i64 k∧k≤mx∧Bx w3 (w.heap.size+1) av (i+1) cv bv (C+k) dv∧w3.ownsRow B2 9 1 (.slice bv (C+k) dv) (C+k) (zTf (P++X.take k))∧Sl w3 av (i+1) SH∧Bx w3 gx ax nx cx bx mx dx∧St w3 bx mx X∧(∀q,(Value.slice bv (C+k) dv).ownBlock=some q→q<HZ∨wc.heap.size≤q)∧Below w.heap.size w w3∧wc.heap.size≤w3.heap.size) (fun iv _=>mx-(intOf iv).toNat)
        case atStart=>exact⟨0,bv,dv,rfl,by omega,hOX,hWX2,hSX,hX,HVX.out.t,hown,hbW,zR _⟩
        case round=>
         obtain⟨k,bv,dv,rfl,hk,hO,ho,hS,hX,hT3,hd,hb,hz⟩:=hrel;clear hOX hWX2 hSX hX1 hown hbW;by_cases hlt:k<mx
         · have e2:(k:Int)<(mx:Int):=by omega
           have HN:=zC (show zTf (P++X.take (k+1))=zTf (P++X.take k)++[.string (X.getD k ByteArray.empty)]by
            rw[←zSg,xQg (by rw[HST.out.2.2];exact hlt),←xA,zSg])
           have HT3:=zC hT3;obtain⟨bb,off,rfl,hc⟩:=hT3.2 yEn;have hck:=hc k hlt;have hbb1:=HFX.out _ rfl;have hbb2:bb<wc.heap.size:=by
            obtain⟨b',o',e',hc'⟩:=HVX.out.t.2 yEn;obtain⟨rfl,rfl,_⟩:=(by simpa using e':bb=b'∧off=o')
            exact yU wc _ (hc' k hlt)
           clear hc;generalize X.getD k ByteArray.empty=x at*;have x1:=hX.c1;have u1:=hO.c1;have lO:=hO.lt;have HO:=zC hO;have HW:=zC ho;have HS3:=zC hS;have HX3:=zC hX;have HD:=zC hd;have HB3:=zC hb;clear hO ho hS hX hd hb;go_wp2_with fail;go_region_law (refine xPg wr B2 (.tmp 61) (.tmp 67) bv (C+k) dv _ x rfl rfl rfl rfl rfl rfl rfl rfl HW.out yEn yEn ?_;intro av' cv' w9 hown9 hg9 hn9;have hO9:=Bx.grownV HW.out yCn hg9 HO.out;have z1:=hO9.c1;have g2:=hO9.f 1)
           all_goals
            rw[←HN.out]at hown9;have hlow:=fun q (hq:(Value.slice bv (C+k) dv).ownBlock=some q)=>(HW.out.lt q hq).1;have hb10:=HB3.out.trans ((xNg HW.out hg9 yEn).mono yEn);have hS9:=HS3.out.grown_far hg9 (fun p hp h0 e=>by have h5:=hlow _ e.symm;have h6:=hsb.out p hp;omega);have hT9:=HT3.out.grown_far hg9 (fun p hp h0 e=>by
             injection hp with hp
             have h5:=HD.out _ e.symm;rw[←hp]at h5;simp only at h5;omega)
            have hX9:=Bx.grownV HW.out yCn hg9 HX3.out;have hd9:Hid (∀q,(Value.slice av' (C+k+1) cv').ownBlock=some q→q<HZ∨wc.heap.size≤q):=zC fun q hq=>by
             rcases hn9 with e|⟨g,e,hg⟩
             · exact HD.out q (by rw[←e];exact hq)
             · rw[e]at hq;injection hq with hq;exact .inr yEn
            have hz9:wc.heap.size≤w9.heap.size:=xN hz hg9.size;have hO11:=zC (hO9.set1 av' (C+k+1) cv');have hr11:=zC (xMg hown9 yCn hO9 1 (.slice av' (C+k+1) cv'));have hS11:=zC (hO9.sl1 hS9 (.inr rfl) (.slice av' (C+k+1) cv'));have hT11:=zC (hO9.st1 hT9 (.inr rfl) (.slice av' (C+k+1) cv'));have hX11:=zC (hX9.setOther (p:=⟨w.heap.size+1,1,none⟩) (xL0 hgne) (.slice av' (C+k+1) cv'));have hb11:=zC (hb10.setCell (p:=⟨w.heap.size+1,1,none⟩) (show w.heap.size≤w.heap.size+1 by omega) (.slice av' (C+k+1) cv'));clear hO9 hg9 hown9 hb10 u1 z1 g2 HO HW HS3 HX3 HD HB3 HT3 hS9 hT9 hX9 hn9 hlow x1 hck hz;go_wp2_with fail;go_roundw
            case rel=>exact⟨k+1,av',cv',by go_num,by omega,hO11.out,hr11.out,hS11.out,hX11.out,hT11.out,hd9.out,hb11.out,by simpa using hz9⟩
            case measure=>simp[intOf];omega
         · have e2:¬(k:Int)<(mx:Int):=by omega
           obtain rfl:k=mx:=by omega
           have x1:=hX.c1;have hlen:(its es k (L.take (j+1))).length=C+k:=by rw[HST.out.1,zC0,HST.out.2.2,HC.out]
           rw[yW (by rw[HST.out.2.2];exact zR _),←HST.out.1]at ho;rw[←hlen]at hO ho;have HO:=zC hO;have HW:=zC ho;have HS3:=zC hS;have HB3:=zC hb;have hz3:B2≤wr.heap.size:=xN hbX hz;have hj1:=HJ.out;clear hO ho hS hb hd hT3 hX hlen;go_wp2_with fail;go_roundw
           case rel=>exact⟨j+1,bv,dv,by go_num,by omega,HO.out,HW.out,HS3.out,HB3.out,hz3⟩
           case measure=>simp[intOf];omega
     · have e2:¬(j:Int)<(n2:Int):=by omega
       obtain rfl:j=n2:=by omega
       rw[yW xPm]at hO1 ho1;have x0:=hO1.c0;have x1:=hO1.c1;have hst:=zC (zZf ho1);have hcp2:=zC (xE8 ho1);have hsl:=zC hS1;have h4096:(its es K L).length≤1000000:=HLEN.out;clear hO1 ho1 hS1 hb1;have y0:=h.out.2.1.c0;have y3:=h.out.2.1.c1;have f0:=h.out.2.1.f 0;have f1:=h.out.2.1.f 1;go_wp2_with fail;have hR:=h.out.2.1.set av (i+1) cv bv (its es K L).length dv;have r0:=hR.c0;have r1:=hR.c1;exact zE (v:=.agg #[.slice av (i+1) cv,.slice bv (its es K L).length dv]) (by simp[results,Tryz.results63,go_sem,r0,r1]) rfl ⟨_,_,_,_,_,_,rfl,⟨h.out.2.1.sl (by have:=hsl.out;rwa [HSH.out]at this) _ _,h.out.2.1.st hst.out _ _,by omega⟩,⟨hcp.out.1,hcp.out.2,hcp2.out.1,hcp2.out.2⟩,yJ4 h.out.2.2.2 yEn _ _⟩
end Go.Proofs.YtcfbjdplhgdpfaaGreatDoor

import Derived.Test.YtcfbjdplhgdpfaaGreatDoorTat
set_option maxHeartbeats 6400000
set_option maxRecDepth 100000
namespace Go.Proofs.YtcfbjdplhgdpfaaGreatDoor
set_option linter.unusedVariables false
set_option linter.unusedSimpArgs false
theorem zAm {P:Prop}(h:P:=by simp[results,Tryz.results126,go_sem,b0,b1,b2]):P:=h
abbrev xS2:=@Go.KeepsOthers.setCell
abbrev yK0:=@Go.cell_one_new
section
open Go.RowKit
attribute [local go_sem] Oper.semAt_some
structure DvI (k:Nat) (ps:List (Int×Int)) (w1:World) (i:Nat) (W:World):Prop where
 row:∃v zs,Boxed W w1.heap.size 23 v∧W.ownsRow (w1.heap.size+4) 9 1 v i (zTf (zs.map S))∧SpI k ps i zs
 bel:Below w1.heap.size w1 W
 sz:w1.heap.size+4≤W.heap.size
structure DvX (k:Nat) (ps:List (Int×Int)) (g:Nat) (w0:World) (W:World):Prop where
 out:∃e,spL k ps=(none,e)∧Bx W g none 0 0 none 0 0∧Boxed W (g+1) 28 (.int .i64 e)
 bel:Below w0.heap.size w0 W
section
variable {k i g:Nat} {ps:List (Int×Int)} {w0 w1 W:World}
theorem DvI.abs:Abs (w1.heap.size+4) (w1.heap.size+3) (DvI k ps w1 i) where
 own:=fun A A' h hg=>by
  obtain⟨v,zs,h1,h2,h3⟩:=h.row;exact⟨⟨v,zs,h1.kept hg yHn,h2.kept hg (xL8 h2 yEn),h3⟩,h.bel.grown hg h.bel.size (fun k e=>by cases e;omega),xN h.sz hg.size⟩
 put:=fun A l o o' h hl ho hc=>by
  obtain⟨v,zs,h1,h2,h3⟩:=h.row;exact⟨⟨v,zs,xJ8 h1 _ yEn,ownsRow_putObj h2 _ ho hc,h3⟩,xK8 h.bel _ yEn,by rw[World.putObj_size];exact h.sz⟩
theorem DvX.abs (hg:g+1<w1.heap.size) (h0:w0.heap.size≤g):Abs (w1.heap.size+4) (w1.heap.size+3) (DvX k ps g w0) where
 own:=fun A A' h hgr=>by
  obtain⟨e,h1,h2,h3⟩:=h.out;exact⟨⟨e,h1,(hgr.block g h2.lt (fun e=>by injection e with e;omega)).trans h2,h3.kept hgr (fun e=>by injection e with e;omega)⟩,h.bel.grown hgr h.bel.size (fun k e=>by cases e;omega)⟩
 put:=fun A l o o' h hl ho hc=>by
  obtain⟨e,h1,h2,h3⟩:=h.out;exact⟨⟨e,h1,(xP1 yEn).trans h2,xJ8 h3 _ yEn⟩,xK8 h.bel _ yEn⟩
theorem DvI.next {W w5 w6:World} {v v':Value} {tmp:Obj} {zs:List Int} {z:Int} (h:DvI k ps w1 i W) (hv:Boxed W w1.heap.size 23 v) (hr:W.ownsRow (w1.heap.size+4) 9 1 v i (zTf (zs.map S)))
 (hI:SpI k ps (i+1) (zs++[z])) (hb:Below W.heap.size W w5) (ho:w6.ownsRow (w1.heap.size+4) 9 1 v' (i+1) (zTf ((zs++[z]).map S))) (hgr:(w5.alloc tmp).grownBy w6 v.ownBlock):
 Boxed w6 w1.heap.size 23 v∧KeepsOthers W (w6.setCell ⟨w1.heap.size,0,none⟩ v')∧PrK w1 (w1.heap.size+1) W (w6.setCell ⟨w1.heap.size,0,none⟩ v')∧DvI k ps w1 (i+1) (w6.setCell ⟨w1.heap.size,0,none⟩ v'):=by
 have hs:=h.sz;have hs5:=xN hs hb.size;have hv5:Boxed w5 w1.heap.size 23 v:=xN8 hv hb hv.lt;have hr5:=zLe hr hb;have hfar:∀b,b<w1.heap.size+4→w6.heap[b]?=W.heap[b]?:=fun b hb'=>by
  rw[hgr.block b zZn ?_,zC1 _ _ _ yEn,hb.block b yEn];rcases hr5.2 with⟨rfl,_⟩|⟨g,cap,cur,rfl,hg1,_⟩
  · simp[Value.ownBlock]
  · intro e
    injection e with e
    have:b=g:=e;omega
 have h3:∀b,b<w1.heap.size+4→b≠w1.heap.size→(w6.setCell ⟨w1.heap.size,0,none⟩ v').heap[b]?=W.heap[b]?:=fun b hb' hne=>(zX0 w6 ⟨w1.heap.size,0,none⟩ v' b (by simpa using hne)).trans (hfar b hb');obtain⟨a1,a2,a3,a4,a5⟩:=Boxed.appended (n₀:=w1.heap.size) hv5 yCn (xM8 hr5 yEn) yEn yEn (xM8 ho yEn) hgr;refine⟨a1,(xO8 hb).trans a4,fun b hb'=>h3 b yEn yEn,⟨⟨v',zs++[z],a2,?_,hI⟩,(h.bel.trans (hb.mono yEn)).trans a5,xN hs5 a4.size⟩⟩;exact ho.kept (grownBy_setCell' w6 w1.heap.size v') (xL8 ho yEn)
end
theorem zXl {l m:List Int} {N n i:Nat} (hm:meE l m=0) (hN:pr (meV l m)=N) (h:(n:Int)=pr l) (hi:i<N):(if nx l then 0 else i)<n:=by
 by_cases h0:l=[]
 · subst h0
   have:(n:Int)=1:=h;show 0<n;omega
 · have e:nx l=false:=yG0 h0
   rw[e];show i<n;have hv:meV l m=l:=by
    unfold meE at hm;unfold meV;split
    · rfl
    · rename_i hno
      rw[zY]at hm
      · cases hm
      · rintro(h1|h1|h1)
        · exact hno (.inl h1)
        · exact hno (.inr h1)
        · exact h0 h1
   rw[hv]at hN;omega
def zYl (k:Nat) (ps:List (Int×Int)) (l:List Int) (W:World) (e:Ending) (W':World):Prop:=
 (∃zs,spL k ps=(some zs,0)∧yPf l (zs.map S) 0 W e W')∨∃ec,spL k ps=(none,ec)∧yPf [] [] ec W e W'
def dvW (W:World) (op:ByteArray) (v u:Array Value):World:=((((W.alloc (.cells #[.string op] 9)).alloc (.cells v 25)).alloc (.cells u 25)).alloc (.cells #[.slice none 0 0,.slice none 0 0] 25)).alloc (.cells #[.int .i64 0] 28)
structure DvB (g:Nat) (op:ByteArray) (v u:Array Value) (W:World):Prop where
 o:Boxed W g 9 (.string op)
 v:W.heap[g+1]?=some (.cells v 25 (0,0))
 u:W.heap[g+2]?=some (.cells u 25 (0,0))
 r:Bx W (g+3) none 0 0 none 0 0
 e:Boxed W (g+4) 28 (.int .i64 0)
theorem DvB.below {g:Nat} {op:ByteArray} {v u:Array Value} {W W':World} (h:DvB g op v u W) (hb:Below W.heap.size W W'):DvB g op v u W':=by
 have l:=h.e.lt;exact⟨(hb.block _ yEn).trans h.o,(hb.block _ yEn).trans h.v,(hb.block _ yEn).trans h.u,(hb.block _ yEn).trans h.r,(hb.block _ yEn).trans h.e⟩
theorem zZl (W:World) (op:ByteArray) (v u:Array Value):DvB W.heap.size op v u (dvW W op v u)∧Below W.heap.size W (dvW W op v u):=by
 unfold dvW;obtain⟨h1,h2,h3,hb⟩:=yY8 W (.cells #[.string op] 9) (.cells v 25) (.cells u 25);have s3:(((W.alloc (.cells #[.string op] 9)).alloc (.cells v 25)).alloc (.cells u 25)).heap.size=W.heap.size+3:=by simp
 generalize ((W.alloc (.cells #[.string op] 9)).alloc (.cells v 25)).alloc (.cells u 25)=w3 at*;obtain⟨h4,h5,hb2⟩:=yX8 w3 (.cells #[.slice none 0 0,.slice none 0 0] 25) (.cells #[.int .i64 0] 28);rw[s3]at h4 h5;exact⟨⟨(hb2.block _ yEn).trans h1,(hb2.block _ yEn).trans h2,(hb2.block _ yEn).trans h3,h4,h5⟩,hb.trans (hb2.mono yEn)⟩
theorem DvB.left {k g:Nat} {ps:List (Int×Int)} {op:ByteArray} {v u:Array Value} {w0 w5:World} {ec:Int} (h:DvB g op v u w5) (hb:Below w0.heap.size w0 w5) (hg:w0.heap.size=g) (hs:spL k ps=(none,ec)):
 KeepsOthers w5 (((w5.setCell ⟨g+3,0,none⟩ (.slice none 0 0)).setCell ⟨g+3,1,none⟩ (.slice none 0 0)).setCell ⟨g+4,0,none⟩ (.int .i64 ec))∧DvX k ps (g+3) w0 (((w5.setCell ⟨g+3,0,none⟩ (.slice none 0 0)).setCell ⟨g+3,1,none⟩ (.slice none 0 0)).setCell ⟨g+4,0,none⟩ (.int .i64 ec)):=by
 refine⟨((xS2 _ _ _).trans (xS2 _ _ _)).trans (xS2 _ _ _),⟨ec,hs,(h.r.set none 0 0 none 0 0).setOther yHn _,?_⟩,((hb.setCell (p:=⟨g+3,0,none⟩) zZn _).setCell (p:=⟨g+3,1,none⟩) zZn _).setCell (p:=⟨g+4,0,none⟩) zZn _⟩;have h1:Boxed ((w5.setCell ⟨g+3,0,none⟩ (.slice none 0 0)).setCell ⟨g+3,1,none⟩ (.slice none 0 0)) (g+4) 28 (.int .i64 0):=((zX0 _ _ _ _ yHn).trans (zX0 _ _ _ _ yHn)).trans h.e;exact h1.set _
theorem Sl.collected {W:World} {a:Option Addr} {n:Nat} {l:List Int} (h:Sl W a n l) {D:Nat} (hd:W.heap[D]?=some (.deferred (some []))) (o:Obj):Sl (W.putObj D o) a n l:=by
 refine⟨h.1,fun hn=> ?_⟩;obtain⟨g,off,e,hc⟩:=h.2 hn;refine⟨g,off,e,fun j hj=> ?_⟩;have hne:g≠D:=by
  rintro rfl;have:=hc j hj;simp[World.cell?,hd]at this
 exact(xQ1 (a:=⟨g,off+j,none⟩) (xP1 hne)).trans (hc j hj)
theorem DvB.filled {g D:Nat} {op:ByteArray} {v u:Array Value} {w0 w5:World} (h:DvB g op v u w5) (hb:Below w0.heap.size w0 w5) (hg:w0.heap.size=g) {a:Option Addr} {N c S:Nat} {xs:List Value} (hr:w5.ownsRow S 9 1 (.slice a N c) N xs) (hS:g+4<S)
 {a3:Option Addr} {n3:Nat} {l:List Int} (hl:Sl w5 a3 n3 l) (hd:w5.heap[D]?=some (.deferred (some []))) (hD:g+4<D) (a':Option Addr) (n' c':Nat) (b':Option Addr) (m' d':Nat):
 Bx ((((w5.setCell ⟨g+3,0,none⟩ (.slice a' n' c')).setCell ⟨g+3,1,none⟩ (.slice b' m' d')).setCell ⟨g+4,0,none⟩ (.int .i64 0)).putObj D (.deferred none)) (g+3) a' n' c' b' m' d'
 ∧((((w5.setCell ⟨g+3,0,none⟩ (.slice a' n' c')).setCell ⟨g+3,1,none⟩ (.slice b' m' d')).setCell ⟨g+4,0,none⟩ (.int .i64 0)).putObj D (.deferred none)).ownsRow S 9 1 (.slice a N c) N xs
 ∧Sl ((((w5.setCell ⟨g+3,0,none⟩ (.slice a' n' c')).setCell ⟨g+3,1,none⟩ (.slice b' m' d')).setCell ⟨g+4,0,none⟩ (.int .i64 0)).putObj D (.deferred none)) a3 n3 l
 ∧Below w0.heap.size w0 ((((w5.setCell ⟨g+3,0,none⟩ (.slice a' n' c')).setCell ⟨g+3,1,none⟩ (.slice b' m' d')).setCell ⟨g+4,0,none⟩ (.int .i64 0)).putObj D (.deferred none))
 ∧((((w5.setCell ⟨g+3,0,none⟩ (.slice a' n' c')).setCell ⟨g+3,1,none⟩ (.slice b' m' d')).setCell ⟨g+4,0,none⟩ (.int .i64 0))).heap[D]?=some (.deferred (some []))
 ∧Boxed ((((w5.setCell ⟨g+3,0,none⟩ (.slice a' n' c')).setCell ⟨g+3,1,none⟩ (.slice b' m' d')).setCell ⟨g+4,0,none⟩ (.int .i64 0)).putObj D (.deferred none)) (g+4) 28 (.int .i64 0):=by
 have h1:=h.r.set a' n' c' b' m' d';have h2:Boxed ((w5.setCell ⟨g+3,0,none⟩ (.slice a' n' c')).setCell ⟨g+3,1,none⟩ (.slice b' m' d')) (g+4) 28 (.int .i64 0):=((zX0 _ _ _ _ yHn).trans (zX0 _ _ _ _ yHn)).trans h.e;have hd1:((((w5.setCell ⟨g+3,0,none⟩ (.slice a' n' c')).setCell ⟨g+3,1,none⟩ (.slice b' m' d')).setCell ⟨g+4,0,none⟩ (.int .i64 0))).heap[D]?=some (.deferred (some [])):=
  ((zX0 _ _ _ _ zZn).trans ((zX0 _ _ _ _ zZn).trans (zX0 _ _ _ _ zZn))).trans hd
 have hr1:=yRf (yRf (yRf hr (p:=⟨g+3,0,none⟩) zZn (.slice a' n' c')) (p:=⟨g+3,1,none⟩) zZn (.slice b' m' d')) (p:=⟨g+4,0,none⟩) zZn (.int .i64 0);have hl1:=(h.r.sl hl (.slice a' n' c') (.slice b' m' d')).again h2.cell;refine⟨?_,ownsRow_putObj hr1 _ hd1 rfl,hl1.collected hd1 _,?_,hd1,?_⟩
 · exact(xP1 yEn).trans (h1.setOther yHn _)
 · exact xK8 (((hb.setCell (p:=⟨g+3,0,none⟩) zZn _).setCell (p:=⟨g+3,1,none⟩) zZn _).setCell (p:=⟨g+4,0,none⟩) zZn _) _ yEn
 · exact xJ8 (h2.set _) _ yEn
theorem yAl {op:ByteArray} {a1 b1 a2 b2:Option Addr} {n1 c1 m1 d1 n2 c2 m2 d2:Nat} {l m:List Int} {xs ys:List Int} {es fs:List ByteArray} (W:World) (hW:SC W) (ho:op.size≤maxLen) (hk:kdL op.data.toList<11)
 (hV:Vl W a1 n1 b1 m1 l es) (hU:Vl W a2 n2 b2 m2 m fs) (hz1:∀j,j<m1→(es.getD j ByteArray.empty).size≤maxLen) (hz2:∀j,j<m2→(fs.getD j ByteArray.empty).size≤maxLen)
 (A1:AIs l es (some (l,xs))) (A2:AIs m fs (some (m,ys))) (hm:meE l m=0):
 Calls Tryz.prog 126 #[.string op,.agg #[.slice a1 n1 c1,.slice b1 m1 d1],.agg #[.slice a2 n2 c2,.slice b2 m2 d2]] W
  (zYl (kdL op.data.toList) (prs (nx l) (nx m) xs ys (prD (meV l m)).toNat) (meV l m) W):=by
 obtain⟨_,e1,s1,p1,q1⟩:=A1.len;obtain⟨_,e2,s2,p2,q2⟩:=A2.len;simp only at e1 p1 q1 e2 p2 q2;have hn1:n1≤20:=by have:=(yE9.1 s1).len;rw[hV.s.1]at this;omega
 have hn2:n2≤20:=by have:=(yE9.1 s2).len;rw[hU.s.1]at this;omega
 have hme:szE (meV l m)=0:=by
  unfold meV;split
  · exact s1
  · split
    · exact s2
    · exact(by decide:szE []=0)
 obtain⟨N,hN⟩:∃N:Nat,pr (meV l m)=N:=⟨(pr (meV l m)).toNat,by have:=(xA9 hme).1;omega⟩
 have hN4:N≤4096:=by have:=(yE9.1 hme).pr;omega
 rw[yNf,hN,yB];obtain⟨hB0,hb0⟩:=zZl W op #[.slice a1 n1 c1,.slice b1 m1 d1] #[.slice a2 n2 c2,.slice b2 m2 d2];have KO:=fun w (hw:SC w)=>yN8 op ho w hw;rw[yI0 hk]at KO;replace KO:=zC KO;have KV:=fun w (hb:Below W.heap.size W w)=>yZ4 (c:=c1) (d:=d1) w (hV.below hb) hz1;have KU:=fun w (hb:Below W.heap.size W w)=>yZ4 (c:=c2) (d:=d2) w (hU.below hb) hz2;rw[A1.may]at KV;rw[A2.may]at KU;replace KV:=zC KV;replace KU:=zC KU;refine(xS1 (n:=9)).1 ?_;refine callsIn_of_wp_marks Tryz.func126 rfl trivial ?_ rfl;simp only[Tryz.ntmps126,yB1,yC1,xR1,Nat.reduceAdd,Nat.reduceSub,Array.replicate_succ,Array.replicate_zero,List.push_toArray,List.append_toArray,zS0,zW1];have HW:=zC hW;have hbw0:=HW.out.below hb0;gi_wp2
 refine⟨trivial,(xS1.2 (KO.out _ hbw0)).mono ?_⟩;rintro e w1 ⟨rfl,hq⟩;have hB1:=hB0.below hq;have hb1:=hb0.trans (hq.mono hb0.size);clear hB0 hb0 hq hbw0;have v0:w1.cell? ⟨W.heap.size+1,0,none⟩=some (.slice a1 n1 c1):=by rw[yB0 _ _ 0 _ _ _ hB1.v];rfl
 have v1:w1.cell? ⟨W.heap.size+1,1,none⟩=some (.slice b1 m1 d1):=by rw[yB0 _ _ 1 _ _ _ hB1.v];rfl
 gi_wp2
 refine⟨trivial,(xS1.2 (KV.out _ hb1)).mono ?_⟩;rintro e w2 ⟨rfl,hq⟩;have hB2:=hB1.below hq;have hb2:=hb1.trans (hq.mono hb1.size);clear hB1 hb1 hq v0 v1;have v0:w2.cell? ⟨W.heap.size+2,0,none⟩=some (.slice a2 n2 c2):=by rw[yB0 _ _ 0 _ _ _ hB2.u];rfl
 have v1:w2.cell? ⟨W.heap.size+2,1,none⟩=some (.slice b2 m2 d2):=by rw[yB0 _ _ 1 _ _ _ hB2.u];rfl
 gi_wp2
 refine⟨trivial,(xS1.2 (KU.out _ hb2)).mono ?_⟩;rintro e w3 ⟨rfl,hq⟩;have hB3:=hB2.below hq;have hb3:=hb2.trans (hq.mono hb2.size);clear hB2 hb2 hq v0 v1;have v0:w3.cell? ⟨W.heap.size+1,0,none⟩=some (.slice a1 n1 c1):=by rw[yB0 _ _ 0 _ _ _ hB3.v];rfl
 have v1:w3.cell? ⟨W.heap.size+2,0,none⟩=some (.slice a2 n2 c2):=by rw[yB0 _ _ 0 _ _ _ hB3.u];rfl
 have KM:=xI8 a1 a2 n1 c1 n2 c2 l m w3 (hV.s.below hb3) (hU.s.below hb3) hn1 hn2;rw[zBi,zCi,hm]at KM;replace KM:=zC KM;gi_wp2
 refine⟨trivial,(xS1.2 KM.out).mono ?_⟩;rintro e w4 ⟨a3,n3,c3,rfl,hsl,hn3,hnc3,hcm3,hq⟩;have hB4:=hB3.below hq;have hb4:=hb3.trans (hq.mono hb3.size);have hB5:=hB4.below ((zI _ w4).alloc (zR _) (.cells #[.slice none 0 0] 23));clear hB3 hb3 hq v0 v1 KM KO KV KU;have v0:(w4.alloc (.cells #[.slice none 0 0] 23)).cell? ⟨W.heap.size+1,0,none⟩=some (.slice a1 n1 c1):=by rw[yB0 _ _ 0 _ _ _ hB5.v];rfl
 have v1:(w4.alloc (.cells #[.slice none 0 0] 23)).cell? ⟨W.heap.size+1,1,none⟩=some (.slice b1 m1 d1):=by rw[yB0 _ _ 1 _ _ _ hB5.v];rfl
 have u0:(w4.alloc (.cells #[.slice none 0 0] 23)).cell? ⟨W.heap.size+2,0,none⟩=some (.slice a2 n2 c2):=by rw[yB0 _ _ 0 _ _ _ hB5.u];rfl
 have u1:(w4.alloc (.cells #[.slice none 0 0] 23)).cell? ⟨W.heap.size+2,1,none⟩=some (.slice b2 m2 d2):=by rw[yB0 _ _ 1 _ _ _ hB5.u];rfl
 have KP:=xC8 (.slice a1 n1 c1) (.slice b1 m1 d1) (.slice a2 n2 c2) (.slice b2 m2 d2) a3 n3 c3 (meV l m) (w4.alloc (.cells #[.slice none 0 0] 23)) (hsl.below ((zI _ w4).alloc (zR _) _)) hme N hN;replace KP:=zC KP;gi_wp2
 refine⟨trivial,(xS1.2 KP.out).mono ?_⟩;rintro e w' ⟨rfl,rfl⟩;have hF:prF (w4.alloc (.cells #[.slice none 0 0] 23))=.func (.func 179) #[] #[.pointer (some ⟨w4.heap.size+3,0,none⟩),.pointer (some ⟨w4.heap.size+1,0,none⟩),.pointer (some ⟨w4.heap.size+2,0,none⟩)]:=by unfold prF;simp
 have hPr:PrB w4 (w4.heap.size+1) N #[.slice a1 n1 c1,.slice b1 m1 d1] #[.slice a2 n2 c2,.slice b2 m2 d2] (prW (w4.alloc (.cells #[.slice none 0 0] 23)) #[.slice a1 n1 c1,.slice b1 m1 d1] #[.slice a2 n2 c2,.slice b2 m2 d2] N):=by
  have h:=xB8 (w4.alloc (.cells #[.slice none 0 0] 23)) #[.slice a1 n1 c1,.slice b1 m1 d1] #[.slice a2 n2 c2,.slice b2 m2 d2] N;rw[yP0]at h;exact⟨h.bv,h.bw,h.bs,fun b hb=>(h.old b zZn).trans (zC1 _ _ _ hb)⟩
 have hS:(prW (w4.alloc (.cells #[.slice none 0 0] 23)) #[.slice a1 n1 c1,.slice b1 m1 d1] #[.slice a2 n2 c2,.slice b2 m2 d2] N).heap.size=w4.heap.size+4:=by rw[yZ8];simp
 have hI0:DvI (kdL op.data.toList) (prs (nx l) (nx m) xs ys N) w4 0 (prW (w4.alloc (.cells #[.slice none 0 0] 23)) #[.slice a1 n1 c1,.slice b1 m1 d1] #[.slice a2 n2 c2,.slice b2 m2 d2] N):=by
  have hb:=xA8 (w4.alloc (.cells #[.slice none 0 0] 23)) #[.slice a1 n1 c1,.slice b1 m1 d1] #[.slice a2 n2 c2,.slice b2 m2 d2] N;refine⟨⟨.slice none 0 0,[],xN8 (Boxed.new w4 _ _) hb yHn,zT _ _ _ _,SpI.start _ _⟩,((zI _ w4).alloc (zR _) _).trans (hb.mono yHn),by rw[hS];exact zR _⟩
 rw[hF];generalize prW (w4.alloc (.cells #[.slice none 0 0] 23)) #[.slice a1 n1 c1,.slice b1 m1 d1] #[.slice a2 n2 c2,.slice b2 m2 d2] N=V at*;clear hF v0 v1 u0 u1 KP hB5;have hln1:∀i,i<N→(if nx l then 0 else i)<xs.length:=fun i hi=>zXl hm hN p1 hi;have hln2:∀i,i<N→(if nx m then 0 else i)<ys.length:=fun i hi=>by
  refine zXl (l:=m) (m:=l) (by rw[←zPd];exact hm) (by rw[←zQd hm];exact hN) p2 hi
 have hw4:W.heap.size+4<w4.heap.size:=hB4.e.lt;have hV4:=hV.below hb4;have hU4:=hU.below hb4;have HX:=zC (And.intro A1.2.1 A2.2.1);obtain⟨i0,hi0,hz0,hz1',hz2'⟩:=zF xC4;gi_wp2
 refine yS8 (N:=N) (B:=w4.heap.size+3) (Kp:=PrK w4 (w4.heap.size+1)) rfl yCn rfl trivial (yJ1 Tryz.func179 zYn rfl)
  (yW8 8 w4 (w4.heap.size+1) (w4.heap.size+3) N hV4 hU4 (fun i hi=>by rw[←hV.t.1,e1];exact hln1 i hi) (fun i hi=>by rw[←hU.t.1,e2];exact hln2 i hi) yEn yEn V hPr) yEn
  (fun X Y Z h g b hb=>(g b hb).trans (h b hb)) (fun X y o hy b hb=>xP1 yEn) (fun _=>rfl)
  (DvI (kdL op.data.toList) (prs (nx l) (nx m) xs ys N) w4) (DvX (kdL op.data.toList) (prs (nx l) (nx m) xs ys N) (W.heap.size+3) W) (fun k=>by rw[hS];exact DvI.abs) (by rw[hS];exact DvX.abs hw4 yEn) hI0
  (fun k=>{tmps:=#[.string op,.agg #[.slice a1 n1 c1,.slice b1 m1 d1],.agg #[.slice a2 n2 c2,.slice b2 m2 d2],.pointer (some ⟨W.heap.size,0,none⟩),.pointer (some ⟨W.heap.size+1,0,none⟩),.pointer (some ⟨W.heap.size+1+1,0,none⟩),.pointer (some ⟨W.heap.size+1+1+1,0,none⟩),.pointer (some ⟨W.heap.size+1+1+1+1,0,none⟩),.slice a3 n3 c3,.int .i64 0,.pointer (some ⟨w4.heap.size,0,none⟩),.string (elR (nx l) es k),.string (elR (nx m) fs k),undef,undef,.string op,.bool true,.bool false,.bool false,.agg #[.slice a1 n1 c1,.slice b1 m1 d1],.bool true,.bool false,.bool false,.bool false,.agg #[.slice a2 n2 c2,.slice b2 m2 d2],.bool true,.bool false,.bool false,undef,.tuple #[.slice a3 n3 c3,.int .i64 0],.pointer (some ⟨W.heap.size+1,0,none⟩),.slice a1 n1 c1,.pointer (some ⟨W.heap.size+1+1,0,none⟩),.slice a2 n2 c2,.tuple #[.slice a3 n3 c3,.int .i64 0],.slice a3 n3 c3,.int .i64 0,.int .i64 0,.bool false,undef,undef,.agg #[.slice a1 n1 c1,.slice b1 m1 d1],.agg #[.slice a2 n2 c2,.slice b2 m2 d2],.slice a3 n3 c3,.func (.func 179) #[] #[.pointer (some ⟨w4.heap.size+3,0,none⟩),.pointer (some ⟨w4.heap.size+1,0,none⟩),.pointer (some ⟨w4.heap.size+2,0,none⟩)],.string (elR (nx l) es k),.string (elR (nx m) fs k),undef,undef,undef,undef,undef,undef,undef,undef,undef,undef,undef,undef,undef,undef,undef,undef,undef,undef],defers:=[]}) ?assign ?body ?done ?stop
 case assign=>
  intro y k V1 K hK;unfold yU8;gi_wp2
  exact hK
 case body=>
  intro y i V1 hi hI;obtain⟨v,zs,hv,hr,hsp⟩:=hI.row;obtain⟨a,c,rfl⟩:=zWf hr;have hbV:Below w4.heap.size w4 V1:=hI.bel;have hBV:=hB4.below hbV;have hbW:=hb4.trans (hbV.mono hb4.size);have hps:=yD8 (u:=nx l) (v:=nx m) (xs:=xs) (ys:=ys) hi;have x1:Is (elR (nx l) es i) (some (xs.getD (if nx l then 0 else i) 0)):=⟨by unfold elR;rw[HX.out.1];exact yE8 (hln1 i hi),yF8 q1 _⟩
  have x2:Is (elR (nx m) fs i) (some (ys.getD (if nx m then 0 else i) 0)):=⟨by unfold elR;rw[HX.out.2];exact yE8 (hln2 i hi),yF8 q2 _⟩
  have hd:=zC7 ho x1 x2;have hle:i<(prs (nx l) (nx m) xs ys N).length:=by rw[zKd];exact hi
  have hst:=fun z h=>SpI.step (z:=z) hsp hle h;have hno:=fun e h=>SpI.stop (e:=e) hsp hle h;rw[hps]at hst hno;simp only[dyO]at hd;simp only at hst hno;generalize elR (nx l) es i=s1 at*;generalize elR (nx m) fs i=s2 at*;generalize xs.getD (if nx l then 0 else i) 0=x at*;generalize ys.getD (if nx m then 0 else i) 0=y' at*;obtain⟨o,ec,hdy⟩:∃o ec,dyI (kdL op.data.toList) x y'=(o,ec):=⟨_,_,rfl⟩
  rw[hdy]at hd hst hno;have KD:=hd V1 (HW.out.below hbW);have o0:=hBV.o.cell;have HI:=zC hI;have HR:=zC hr;have HV:=zC hv;have HB:=zC hBV;have HBW:=zC hbW;have hlim:=HI.out.sz;clear hI hr hv hsp hbV hBV hbW hps x1 x2 hd hle;cases o with
  |none=>
   have hs:=hno ec rfl;have hec:ec=1∨ec=5∨ec=8:=zEd hdy;clear hst hno hdy;simp only[T]at KD;have hec0:¬ec=0:=by omega
   have KD:=zC KD;have HS:=zC hs;clear hs hec;gi_wp2
   refine⟨trivial,(CallsIn.inRound y (xS1.2 KD.out)).mono ?_⟩;rintro e w5 ⟨rfl,hq⟩;have hB5:=HB.out.below hq;have hb5:=HBW.out.trans (hq.mono HBW.out.size);have r0:=hB5.r.c0;have r1:=hB5.r.c1;have f0:=hB5.r.f 0;have f1:=hB5.r.f 1;have r2:=hB5.e.cell;have f2:=hB5.e.frozen;have H5:=zC hB5;have Hb5:=zC hb5;have HQ:=zC hq;clear hB5 hb5 hq;gi_wp2
   obtain⟨g1,g2⟩:=H5.out.left Hb5.out rfl HS.out;exact⟨(xO8 HQ.out).trans g1,g2⟩
  |some z=>
   have hz0:=zDd hdy;subst hz0;have hsp':=hst z rfl;have hn1':zTf ((zs++[z]).map S)=zTf (zs.map S)++[.string (S z)]:=by rw[zN];exact yQf _ _
   clear hst hno hdy;simp only[T]at KD;generalize S z=sz at KD hn1';have KD:=zC KD;have HSP:=zC hsp';have HN1:=zC hn1';clear hsp' hn1';gi_wp2
   refine⟨trivial,(CallsIn.inRound y (xS1.2 KD.out)).mono ?_⟩;rintro e w5 ⟨rfl,hq⟩;have c5:=(xN8 HV.out hq HV.out.lt).cell;have HR5:=zC (zLe HR.out hq);have HQ:=zC hq;have hs5:=hq.size;clear hq o0;gi_wp2_with (gi_at_builtin;refine wpListIn_append_own _ rfl _ _ 23 rfl (w4.heap.size+4) 9 i0 (.string ⟨#[]⟩) 1 16 Tryz.underlying23 hi0 hz0 hz1' hz2' rfl yCn _ _ _ rfl (HR5.out.alloc _) ⟨w5.heap.size,0,none⟩ 1 1 [.string sz] rfl rfl (yK0 _ _ _) xSm xXm yEn zZn ?_;intro v' w6 hown' hgrow _;obtain⟨g',cap',rfl⟩:=ownsRow_succ hown';rw[←HN1.out]at hown';obtain⟨hv1,hk2,hs2,hi2⟩:=HI.out.next HV.out HR.out HSP.out HQ.out hown' hgrow;have hc1:=hv1.cell;have hf1:=hv1.frozen)
   exact⟨hk2,hs2,hi2⟩
 case done=>
  intro D V2 hD hI hd;obtain⟨v,zs,hv,hr,hsp⟩:=hI.row;obtain⟨a,c,rfl⟩:=zWf hr;have hB2:=hB4.below hI.bel;have hb2:=hb4.trans (hI.bel.mono hb4.size);have hsl2:=hsl.below hI.bel;have hes:=zFd (SpI.ends (by rw[zKd];exact hsp));have hsp2:=SpI.ends (by rw[zKd];exact hsp:SpI (kdL op.data.toList) (prs (nx l) (nx m) xs ys N) (prs (nx l) (nx m) xs ys N).length zs);have q3:=hv.cell;have r0:=hB2.r.c0;have r1:=hB2.r.c1;have f0:=hB2.r.f 0;have f1:=hB2.r.f 1;have r2:=hB2.e.cell;have f2:=hB2.e.frozen;have HB:=zC hB2;have Hb:=zC hb2;have HR:=zC hr;have HL:=zC hsl2;have HS:=zC hsp2;have HC:=zC (xE8 hr);clear hI hv hr hsp hB2 hb2 hsl2 hes hsp2 hI0 hPr;gi_wp2
  obtain⟨hB3,hR3,hL3,hb3,hd3⟩:=HB.out.filled Hb.out rfl HR.out (show W.heap.size+4<w4.heap.size+4 by omega) HL.out hd (show W.heap.size+4<D by omega) a3 n3 c3 a N c;have b0:=hB3.c0;have b1:=hB3.c1;refine⟨by simp,.inl ⟨_,_,rfl,run_takeDeferred hd3.1,?_⟩⟩;have b2:=hd3.2.cell;refine⟨.tuple #[.agg #[.slice a3 n3 c3,.slice a N c],.int .i64 0],by simp[results,Tryz.results126,Tryz.f126,go_sem,b0,b1,b2],?_⟩;exact .inl ⟨zs,HS.out,a3,n3,c3,a,N,c,rfl,⟨hL3,zZf hR3,by omega⟩,⟨hnc3,hcm3,HC.out.1,HC.out.2⟩,hb3⟩
 case stop=>
  intro D V2 hD hX hd;obtain⟨e,hs,hr,he⟩:=hX.out;have HX2:=zC hX;have r0:=(hr.c0)
  gi_wp2
  refine⟨by simp,.inl ⟨_,_,rfl,run_takeDeferred hd,?_⟩⟩;have hr2:Bx (V2.putObj D (.deferred none)) (W.heap.size+3) none 0 0 none 0 0:=(xP1 yEn).trans hr;have b0:=hr2.c0;have b1:=hr2.c1;have b2:=(xJ8 he (.deferred none) (show W.heap.size+3+1≠D by omega)).cell;refine⟨.tuple #[.agg #[.slice none 0 0,.slice none 0 0],.int .i64 e],by simp[results,Tryz.results126,Tryz.f126,go_sem,b0,b1,b2],?_⟩;exact .inr ⟨e,hs,none,0,0,none,0,0,rfl,Vl.none_ _,⟨by omega,by unfold maxLen;omega,by omega,by unfold maxLen;omega⟩,xK8 HX2.out.bel _ yEn⟩
end
section
open Go.RowKit
theorem DvB.fails {g:Nat} {op:ByteArray} {v u:Array Value} {w0 w5:World} (h:DvB g op v u w5) (hb:Below w0.heap.size w0 w5) (hg:w0.heap.size=g) (ec:Int):
 Bx (((w5.setCell ⟨g+3,0,none⟩ (.slice none 0 0)).setCell ⟨g+3,1,none⟩ (.slice none 0 0)).setCell ⟨g+4,0,none⟩ (.int .i64 ec)) (g+3) none 0 0 none 0 0
 ∧Boxed (((w5.setCell ⟨g+3,0,none⟩ (.slice none 0 0)).setCell ⟨g+3,1,none⟩ (.slice none 0 0)).setCell ⟨g+4,0,none⟩ (.int .i64 ec)) (g+4) 28 (.int .i64 ec)
 ∧yPf [] [] ec w0 (.returned (.tuple #[.agg #[.slice none 0 0,.slice none 0 0],.int .i64 ec])) (((w5.setCell ⟨g+3,0,none⟩ (.slice none 0 0)).setCell ⟨g+3,1,none⟩ (.slice none 0 0)).setCell ⟨g+4,0,none⟩ (.int .i64 ec)):=by
 have h1:Boxed ((w5.setCell ⟨g+3,0,none⟩ (.slice none 0 0)).setCell ⟨g+3,1,none⟩ (.slice none 0 0)) (g+4) 28 (.int .i64 0):=((zX0 _ _ _ _ yHn).trans (zX0 _ _ _ _ yHn)).trans h.e;exact⟨(h.r.set none 0 0 none 0 0).setOther yHn _,h1.set _,none,0,0,none,0,0,rfl,Vl.none_ _,⟨by omega,by unfold maxLen;omega,by omega,by unfold maxLen;omega⟩,
  ((hb.setCell (p:=⟨g+3,0,none⟩) zZn _).setCell (p:=⟨g+3,1,none⟩) zZn _).setCell (p:=⟨g+4,0,none⟩) zZn _⟩
theorem yBl {op:ByteArray} {a1 b1 a2 b2:Option Addr} {n1 c1 m1 d1 n2 c2 m2 d2:Nat} (W:World) (hW:SC W) (ho:op.size≤maxLen) (hk:¬kdL op.data.toList<11):
 Calls Tryz.prog 126 #[.string op,.agg #[.slice a1 n1 c1,.slice b1 m1 d1],.agg #[.slice a2 n2 c2,.slice b2 m2 d2]] W (yPf [] [] 1 W):=by
 obtain⟨hB0,hb0⟩:=zZl W op #[.slice a1 n1 c1,.slice b1 m1 d1] #[.slice a2 n2 c2,.slice b2 m2 d2];have KO:=fun w (hw:SC w)=>yN8 op ho w hw;rw[yG0 hk]at KO;replace KO:=zC KO;have HW:=zC hW;have hbw0:=HW.out.below hb0;clear hW ho hk;go_in;go_wp2_with fail;refine(KO.out _ hbw0).mono ?_;rintro e w1 ⟨rfl,hq⟩;have hB1:=hB0.below hq;have hb1:=hb0.trans (hq.mono hb0.size);clear hB0 hb0 hq hbw0;have r0:=hB1.r.c0;have r1:=hB1.r.c1;have f0:=hB1.r.f 0;have f1:=hB1.r.f 1;have r2:=hB1.e.cell;have f2:=hB1.e.frozen;have HB:=zC hB1;have Hb:=zC hb1;clear hB1 hb1;go_wp2_with fail;obtain⟨h1,h2,h3⟩:=HB.out.fails Hb.out rfl 1;have b0:=h1.c0;have b1:=h1.c1;have b2:=h2.cell;exact zE (v:=.tuple #[.agg #[.slice none 0 0,.slice none 0 0],.int .i64 1]) zAm rfl h3
theorem yCl {op:ByteArray} {a1 b1 a2 b2:Option Addr} {n1 c1 m1 d1 n2 c2 m2 d2:Nat} {l m:List Int} {es fs:List ByteArray} (W:World) (hW:SC W) (ho:op.size≤maxLen) (hk:kdL op.data.toList<11) (hV:Vl W a1 n1 b1 m1 l es) (hz1:∀j,j<m1→(es.getD j ByteArray.empty).size≤maxLen) (hm1:yL4 l es=false):
 Calls Tryz.prog 126 #[.string op,.agg #[.slice a1 n1 c1,.slice b1 m1 d1],.agg #[.slice a2 n2 c2,.slice b2 m2 d2]] W (yPf [] [] 1 W):=by
 obtain⟨hB0,hb0⟩:=zZl W op #[.slice a1 n1 c1,.slice b1 m1 d1] #[.slice a2 n2 c2,.slice b2 m2 d2];have KO:=fun w (hw:SC w)=>yN8 op ho w hw;rw[yI0 hk]at KO;replace KO:=zC KO;have HW:=zC hW;have hbw0:=HW.out.below hb0;have KV:=fun w (hb:Below W.heap.size W w)=>yZ4 (c:=c1) (d:=d1) w (hV.below hb) hz1;rw[hm1]at KV;replace KV:=zC KV;clear hW ho hk hV hz1 hm1;go_in;go_wp2_with fail;refine(KO.out _ hbw0).mono ?_;rintro e w1 ⟨rfl,hq⟩;have hB1:=hB0.below hq;have hb1:=hb0.trans (hq.mono hb0.size);clear hB0 hb0 hq hbw0;have v0:w1.cell? ⟨W.heap.size+1,0,none⟩=some (.slice a1 n1 c1):=by rw[yB0 _ _ 0 _ _ _ hB1.v];rfl
 have v1:w1.cell? ⟨W.heap.size+1,1,none⟩=some (.slice b1 m1 d1):=by rw[yB0 _ _ 1 _ _ _ hB1.v];rfl
 have z0:=hB1.r.c0;have z1:=hB1.r.c1;have f0:=hB1.r.f 0;have f1:=hB1.r.f 1;have z2:=hB1.e.cell;have f2:=hB1.e.frozen;go_wp2_with fail;refine(KV.out _ hb1).mono ?_;rintro e w2 ⟨rfl,hq⟩;have hB2:=hB1.below hq;have hb2:=hb1.trans (hq.mono hb1.size);clear hB1 hb1 hq v0 v1 z0 z1 f0 f1 z2 f2;have r0:=hB2.r.c0;have r1:=hB2.r.c1;have f0:=hB2.r.f 0;have f1:=hB2.r.f 1;have r2:=hB2.e.cell;have f2:=hB2.e.frozen;have HB:=zC hB2;have Hb:=zC hb2;clear hB2 hb2;go_wp2_with fail;obtain⟨h1,h2,h3⟩:=HB.out.fails Hb.out rfl 1;have b0:=h1.c0;have b1:=h1.c1;have b2:=h2.cell;exact zE (v:=.tuple #[.agg #[.slice none 0 0,.slice none 0 0],.int .i64 1]) zAm rfl h3
theorem yDl {op:ByteArray} {a1 b1 a2 b2:Option Addr} {n1 c1 m1 d1 n2 c2 m2 d2:Nat} {l m:List Int} {es fs:List ByteArray} (W:World) (hW:SC W) (ho:op.size≤maxLen) (hk:kdL op.data.toList<11) (hV:Vl W a1 n1 b1 m1 l es) (hz1:∀j,j<m1→(es.getD j ByteArray.empty).size≤maxLen) (hm1:yL4 l es=true) (hU:Vl W a2 n2 b2 m2 m fs) (hz2:∀j,j<m2→(fs.getD j ByteArray.empty).size≤maxLen) (hm2:yL4 m fs=false):
 Calls Tryz.prog 126 #[.string op,.agg #[.slice a1 n1 c1,.slice b1 m1 d1],.agg #[.slice a2 n2 c2,.slice b2 m2 d2]] W (yPf [] [] 1 W):=by
 obtain⟨hB0,hb0⟩:=zZl W op #[.slice a1 n1 c1,.slice b1 m1 d1] #[.slice a2 n2 c2,.slice b2 m2 d2];have KO:=fun w (hw:SC w)=>yN8 op ho w hw;rw[yI0 hk]at KO;replace KO:=zC KO;have HW:=zC hW;have hbw0:=HW.out.below hb0;have KV:=fun w (hb:Below W.heap.size W w)=>yZ4 (c:=c1) (d:=d1) w (hV.below hb) hz1;rw[hm1]at KV;replace KV:=zC KV;have KU:=fun w (hb:Below W.heap.size W w)=>yZ4 (c:=c2) (d:=d2) w (hU.below hb) hz2;rw[hm2]at KU;replace KU:=zC KU;clear hW ho hk hV hz1 hm1 hU hz2 hm2;go_in;go_wp2_with fail;refine(KO.out _ hbw0).mono ?_;rintro e w1 ⟨rfl,hq⟩;have hB1:=hB0.below hq;have hb1:=hb0.trans (hq.mono hb0.size);clear hB0 hb0 hq hbw0;have v0:w1.cell? ⟨W.heap.size+1,0,none⟩=some (.slice a1 n1 c1):=by rw[yB0 _ _ 0 _ _ _ hB1.v];rfl
 have v1:w1.cell? ⟨W.heap.size+1,1,none⟩=some (.slice b1 m1 d1):=by rw[yB0 _ _ 1 _ _ _ hB1.v];rfl
 have z0:=hB1.r.c0;have z1:=hB1.r.c1;have f0:=hB1.r.f 0;have f1:=hB1.r.f 1;have z2:=hB1.e.cell;have f2:=hB1.e.frozen;go_wp2_with fail;refine(KV.out _ hb1).mono ?_;rintro e w2 ⟨rfl,hq⟩;have hB2:=hB1.below hq;have hb2:=hb1.trans (hq.mono hb1.size);clear hB1 hb1 hq v0 v1 z0 z1 f0 f1 z2 f2;have v0:w2.cell? ⟨W.heap.size+2,0,none⟩=some (.slice a2 n2 c2):=by rw[yB0 _ _ 0 _ _ _ hB2.u];rfl
 have v1:w2.cell? ⟨W.heap.size+2,1,none⟩=some (.slice b2 m2 d2):=by rw[yB0 _ _ 1 _ _ _ hB2.u];rfl
 go_wp2_with fail;refine(KU.out _ hb2).mono ?_;rintro e w3 ⟨rfl,hq⟩;have hB3:=hB2.below hq;have hb3:=hb2.trans (hq.mono hb2.size);clear hB2 hb2 hq v0 v1;have r0:=hB3.r.c0;have r1:=hB3.r.c1;have f0:=hB3.r.f 0;have f1:=hB3.r.f 1;have r2:=hB3.e.cell;have f2:=hB3.e.frozen;have HB:=zC hB3;have Hb:=zC hb3;clear hB3 hb3;go_wp2_with fail;obtain⟨h1,h2,h3⟩:=HB.out.fails Hb.out rfl 1;have b0:=h1.c0;have b1:=h1.c1;have b2:=h2.cell;exact zE (v:=.tuple #[.agg #[.slice none 0 0,.slice none 0 0],.int .i64 1]) zAm rfl h3
theorem yEl {op:ByteArray} {a1 b1 a2 b2:Option Addr} {n1 c1 m1 d1 n2 c2 m2 d2:Nat} {l m:List Int} {es fs:List ByteArray} (W:World) (hW:SC W) (ho:op.size≤maxLen) (hk:kdL op.data.toList<11) (hV:Vl W a1 n1 b1 m1 l es) (hz1:∀j,j<m1→(es.getD j ByteArray.empty).size≤maxLen) (hm1:yL4 l es=true) (hU:Vl W a2 n2 b2 m2 m fs) (hz2:∀j,j<m2→(fs.getD j ByteArray.empty).size≤maxLen) (hm2:yL4 m fs=true) (hm:meE l m=4):
 Calls Tryz.prog 126 #[.string op,.agg #[.slice a1 n1 c1,.slice b1 m1 d1],.agg #[.slice a2 n2 c2,.slice b2 m2 d2]] W (yPf [] [] 4 W):=by
 obtain⟨hB0,hb0⟩:=zZl W op #[.slice a1 n1 c1,.slice b1 m1 d1] #[.slice a2 n2 c2,.slice b2 m2 d2];have KO:=fun w (hw:SC w)=>yN8 op ho w hw;rw[yI0 hk]at KO;replace KO:=zC KO;have HW:=zC hW;have hbw0:=HW.out.below hb0;have KV:=fun w (hb:Below W.heap.size W w)=>yZ4 (c:=c1) (d:=d1) w (hV.below hb) hz1;rw[hm1]at KV;replace KV:=zC KV;have KU:=fun w (hb:Below W.heap.size W w)=>yZ4 (c:=c2) (d:=d2) w (hU.below hb) hz2;rw[hm2]at KU;replace KU:=zC KU;have hn1:n1≤20:=by have:=(yE9.1 (yN4.1 hm1).e).len;rw[hV.s.1]at this;omega
 have hn2:n2≤20:=by have:=(yE9.1 (yN4.1 hm2).e).len;rw[hU.s.1]at this;omega
 have KM0:=fun w (hb:Below W.heap.size W w)=>xI8 a1 a2 n1 c1 n2 c2 l m w (hV.s.below hb) (hU.s.below hb) hn1 hn2;rw[zBi,zCi,hm]at KM0;replace KM0:=zC KM0;have e4:¬(4:Int)=0:=by decide
 clear hW ho hk hV hz1 hm1 hU hz2 hm2 hn1 hn2 hm;go_in;go_wp2_with fail;refine(KO.out _ hbw0).mono ?_;rintro e w1 ⟨rfl,hq⟩;have hB1:=hB0.below hq;have hb1:=hb0.trans (hq.mono hb0.size);clear hB0 hb0 hq hbw0;have v0:w1.cell? ⟨W.heap.size+1,0,none⟩=some (.slice a1 n1 c1):=by rw[yB0 _ _ 0 _ _ _ hB1.v];rfl
 have v1:w1.cell? ⟨W.heap.size+1,1,none⟩=some (.slice b1 m1 d1):=by rw[yB0 _ _ 1 _ _ _ hB1.v];rfl
 have z0:=hB1.r.c0;have z1:=hB1.r.c1;have f0:=hB1.r.f 0;have f1:=hB1.r.f 1;have z2:=hB1.e.cell;have f2:=hB1.e.frozen;go_wp2_with fail;refine(KV.out _ hb1).mono ?_;rintro e w2 ⟨rfl,hq⟩;have hB2:=hB1.below hq;have hb2:=hb1.trans (hq.mono hb1.size);clear hB1 hb1 hq v0 v1 z0 z1 f0 f1 z2 f2;have v0:w2.cell? ⟨W.heap.size+2,0,none⟩=some (.slice a2 n2 c2):=by rw[yB0 _ _ 0 _ _ _ hB2.u];rfl
 have v1:w2.cell? ⟨W.heap.size+2,1,none⟩=some (.slice b2 m2 d2):=by rw[yB0 _ _ 1 _ _ _ hB2.u];rfl
 go_wp2_with fail;refine(KU.out _ hb2).mono ?_;rintro e w3 ⟨rfl,hq⟩;have hB3:=hB2.below hq;have hb3:=hb2.trans (hq.mono hb2.size);clear hB2 hb2 hq v0 v1;have v0:w3.cell? ⟨W.heap.size+1,0,none⟩=some (.slice a1 n1 c1):=by rw[yB0 _ _ 0 _ _ _ hB3.v];rfl
 have v1:w3.cell? ⟨W.heap.size+2,0,none⟩=some (.slice a2 n2 c2):=by rw[yB0 _ _ 0 _ _ _ hB3.u];rfl
 have KM:=zC (KM0.out w3 hb3);go_wp2_with fail;refine KM.out.mono ?_;rintro e w4 ⟨a3,n3,c3,rfl,hsl,hn3,hnc3,hcm3,hq⟩;have hB4:=hB3.below hq;have hb4:=hb3.trans (hq.mono hb3.size);clear hB3 hb3 hq v0 v1 KM;have r0:=hB4.r.c0;have r1:=hB4.r.c1;have f0:=hB4.r.f 0;have f1:=hB4.r.f 1;have r2:=hB4.e.cell;have f2:=hB4.e.frozen;have HB:=zC hB4;have Hb:=zC hb4;clear hB4 hb4;go_wp2_with fail;obtain⟨h1,h2,h3⟩:=HB.out.fails Hb.out rfl 4;have b0:=h1.c0;have b1:=h1.c1;have b2:=h2.cell;exact zE (v:=.tuple #[.agg #[.slice none 0 0,.slice none 0 0],.int .i64 4]) zAm rfl h3
theorem yFl {op:ByteArray} {a1 b1 a2 b2:Option Addr} {n1 c1 m1 d1 n2 c2 m2 d2:Nat} {l m:List Int} {es fs:List ByteArray} {o p:Option Ar} (W:World) (hW:SC W) (ho:op.size≤maxLen)
 (hV:Vl W a1 n1 b1 m1 l es) (hU:Vl W a2 n2 b2 m2 m fs) (hz1:∀j,j<m1→(es.getD j ByteArray.empty).size≤maxLen) (hz2:∀j,j<m2→(fs.getD j ByteArray.empty).size≤maxLen) (A1:AIs l es o) (A2:AIs m fs p):
 Calls Tryz.prog 126 #[.string op,.agg #[.slice a1 n1 c1,.slice b1 m1 d1],.agg #[.slice a2 n2 c2,.slice b2 m2 d2]] W
  (yPf (TS (dyA (kdL op.data.toList) o p).1).1 (TS (dyA (kdL op.data.toList) o p).1).2 (dyA (kdL op.data.toList) o p).2 W):=by
 by_cases hk:kdL op.data.toList<11
 · cases o with
   |none=>
    rw[zUd yIn];exact yCl W hW ho hk hV hz1 A1 (m:=m) (fs:=fs)
   |some q=>
   have hm1:=A1.may;cases p with
   |none=>
    rw[zUd yIn];exact yDl W hW ho hk hV hz1 hm1 hU hz2 A2
   |some r=>
   have hm2:=A2.may;obtain⟨l',xs⟩:=q;obtain⟨m',ys⟩:=r;obtain⟨g1,_⟩:=A1.len;obtain⟨g2,_⟩:=A2.len;simp only at g1 g2;subst g1 g2;rcases zOd l' m' with hm|hm
   · rw[zRd hk hm]
     refine(yAl W hW ho hk hV hU hz1 hz2 A1 A2 hm).mono ?_;rintro e w (⟨zs,h1,h2⟩|⟨ec,h1,h2⟩)
     · rw[h1];exact h2
     · rw[h1];exact h2
   · rw[zSd hk (by rw[hm];decide)]
     exact yEl W hW ho hk hV hz1 hm1 hU hz2 hm2 hm
 · rw[zTd hk]
   exact yBl W hW ho hk
end
end Go.Proofs.YtcfbjdplhgdpfaaGreatDoor

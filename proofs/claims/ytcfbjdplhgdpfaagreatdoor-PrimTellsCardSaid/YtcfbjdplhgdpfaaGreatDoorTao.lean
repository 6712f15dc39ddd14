import Derived.Test.YtcfbjdplhgdpfaaGreatDoorTan
namespace Go.Proofs.YtcfbjdplhgdpfaaGreatDoor
set_option linter.unusedVariables false
set_option linter.unusedSimpArgs false
theorem xWm {P:Prop}(h:P:=by simp only[yC1];omega):P:=h
abbrev yV2:=@List.pairwise_cons
abbrev xN1:=@List.mem_cons
abbrev xK1:=@Prod.mk.injEq
abbrev zU1:=@List.map_cons
abbrev zV0:=@List.ext_getElem?
abbrev xC:=@Int.toNat_of_nonneg
abbrev yB:=@Int.toNat_natCast
section
section
variable {α:Type}
def kI (l:List Int):Nat:=(pr l.tail).toNat
def nI (l:List Int):Nat:=(l.getD 0 0).toNat
def Fits (l:List Int) (es:List α):Prop:=MayL l∧(es.length:Int)=pr l
theorem Fits.cut {l:List Int} {es:List α} (h:Fits l es) (hl:l≠[]):es.length=nI l*kI l:=by
 obtain⟨hm,he⟩:=h;cases l with
 |nil=>exact absurd rfl hl
 |cons x r=>
  have hx:0≤x:=hm.nn 0 yHn;have hr:0≤pr r:=zK9 fun j hj=>hm.nn (j+1) zPn;have e:pr (x::r)=x*pr r:=rfl;rw[e]at he;show _=x.toNat*(pr r).toNat;have e2:((x.toNat*(pr r).toNat:Nat):Int)=x*pr r:=by
   rw[xH0,xC hx,xC hr]
  omega
def rvM (l:List Int) (es:List α):List α:=if l=[]∨es=[]then es else zCa es (kI l) (nI l)
theorem xXc {l:List Int} {es:List α} (h:Fits l es):(rvM l es).length=es.length:=by
 unfold rvM;split
 · rfl
 · rename_i hc
   have he:=h.cut (fun e=>hc (.inl e));rw[zEa he,he]
def flM (l:List Int) (es:List α):List α:=(List.range es.length).filterMap fun j:Nat=>es[(tno l.reverse (j:Int)).toNat]?
theorem xYc {l:List Int} {es:List α} (h:Fits l es) {j:Nat} (hj:j<es.length):(tno l.reverse j).toNat<es.length∧∃x,es[(tno l.reverse j).toNat]?=some x:=by
 have hp:0<pr l:=by have:=h.2;omega
 have ha:=(h.1.pos hp).turned;obtain⟨h1,h2⟩:=xV9 ha (j:Int);rw[xT9,←h.2]at h2;have h3:(tno l.reverse j).toNat<es.length:=by omega
 exact⟨h3,_,yM h3⟩
theorem xZc {β γ:Type} {f:β→Option γ}:∀{l:List β},(∀x∈l,∃y,f x=some y)→(l.filterMap f).length=l.length∧∀i:Nat,(l.filterMap f)[i]?=l[i]?.bind f
 |[],_=>⟨rfl,fun i=>by simp⟩
 |x::r,h=>by
  obtain⟨y,hy⟩:=h x (zO2 ..);obtain⟨h1,h2⟩:=xZc (l:=r) fun z hz=>h z (zN2 _ hz);rw[List.filterMap_cons_some hy];refine⟨by simp[h1],fun i=> ?_⟩;cases i with
  |zero=>simp[hy]
  |succ i=>simpa using h2 i
theorem zAd {l:List Int} {es:List α} (h:Fits l es):(flM l es).length=es.length∧∀j:Nat,j<es.length→(flM l es)[j]?=es[(tno l.reverse j).toNat]?:=by
 obtain⟨h1,h2⟩:=xZc (f:=fun j:Nat=>es[(tno l.reverse j).toNat]?) (l:=List.range es.length) fun x hx=>(xYc h (zU0.1 hx)).2;refine⟨by unfold flM;rw[h1];simp,fun j hj=> ?_⟩;unfold flM;rw[h2];simp[xT0 hj]
theorem Fits.turned {l:List Int} {es:List α} (h:Fits l es):Fits l.reverse (flM l es):=by
 refine⟨?_,by rw[(zAd h).1,xT9];exact h.2⟩;obtain⟨h1,h2,h3,h4⟩:=h.1;refine⟨by simpa using h1,fun j hj=> ?_,fun j hj=> ?_,by rw[xT9];exact h4⟩
 · rw[yY1]at hj
   rw[xS9 hj];exact h2 _ yEn
 · rw[yY1]at hj
   rw[xS9 hj];exact h3 _ yEn
theorem zBd {l:List Int} {es:List α} (h:Fits l es):flM l.reverse (flM l es)=es:=by
 apply zV0;intro j;have hl:=(zAd h).1;by_cases hj:j<es.length
 · have hp:0<pr l:=by have:=h.2;omega
   have ha:=h.1.pos hp;obtain⟨h1,h2⟩:=xV9 ha (j:Int);rw[(zAd h.turned).2 j (by rw[hl];exact hj),yX1];have h3:(tno l j).toNat<es.length:=by have:=h.2;omega
   rw[(zAd h).2 _ h3];have e:tno l.reverse ((tno l j).toNat:Int)=j:=by
    rw[xC h1];exact xX9 ha yEn (by have:=h.2;omega)
   rw[e,yB]
 · rw[yW0 (by rw[(zAd h.turned).1,hl];omega),yW0 yEn]
def ctM (l:List Int) (es:List α) (a b:Nat):List α:=(es.drop (a*kI l)).take ((b-a)*kI l)
theorem zCd {l:List Int} {es:List α} (h:Fits l es) (hl:l≠[]) {a b:Nat} (hb:b≤nI l):(ctM l es a b).length=(b-a)*kI l:=by
 have he:=h.cut hl;unfold ctM;rw[xP,xB0,he,←Nat.sub_mul];exact xR (xE _ yEn)
end
end
section
def spL (k:Nat):List (Int×Int)→Option (List Int)×Int
 |[]=>(some [],0)
 |q::r=>match dyI k q.1 q.2 with
  |(some z,_)=>match spL k r with
   |(some l,_)=>(some (z::l),0)
   |(none,e)=>(none,e)
  |(none,e)=>(none,e)
def dyZ (k:Nat) (q:Int×Int):Int:=((dyI k q.1 q.2).1).getD 0
theorem zDd {k:Nat} {x y z e:Int} (h:dyI k x y=(some z,e)):e=0:=by
 rcases @xNk k x y with⟨h1,_⟩|⟨h1,_⟩
 · rw[h]at h1;exact h1
 · rw[h]at h1;cases h1
theorem zEd {k:Nat} {x y e:Int} (h:dyI k x y=(none,e)):e=1∨e=5∨e=8:=by
 rcases @xNk k x y with⟨_,h1⟩|⟨_,h1⟩
 · rw[h]at h1;cases h1
 · rw[h]at h1;exact h1
theorem zFd {k:Nat} {ps:List (Int×Int)} {l:List Int} {e:Int} (h:spL k ps=(some l,e)):e=0∧l=ps.map (dyZ k)∧∀q∈ps,dyI k q.1 q.2=(some (dyZ k q),0):=by
 induction ps generalizing l e with
 |nil=>cases h;exact⟨rfl,rfl,fun q hq=>by cases hq⟩
 |cons q r ih=>
  obtain⟨o,c,hd⟩:∃o c,dyI k q.1 q.2=(o,c):=⟨_,_,rfl⟩
  obtain⟨o',c',hs⟩:∃o c,spL k r=(o,c):=⟨_,_,rfl⟩
  unfold spL at h;rw[hd]at h;cases o with
  |none=>simp at h
  |some z=>
   simp only[hs]at h;cases o' with
   |none=>simp at h
   |some l'=>
    simp only[xK1,Option.some.injEq]at h;obtain⟨rfl,rfl⟩:=h;obtain⟨_,h2,h3⟩:=ih hs;have hz:dyZ k q=z:=by unfold dyZ;rw[hd];rfl
    have hc:=zDd hd;subst hc;refine⟨rfl,by rw[zU1,hz,h2],?_⟩;intro q' hq';rcases xN1.1 hq' with rfl|h
    · rw[hz];exact hd
    · exact h3 q' h
theorem zGd {k:Nat} {ps:List (Int×Int)} {e:Int} (h:spL k ps=(none,e)):e=1∨e=5∨e=8:=by
 induction ps generalizing e with
 |nil=>cases h
 |cons q r ih=>
  obtain⟨o,c,hd⟩:∃o c,dyI k q.1 q.2=(o,c):=⟨_,_,rfl⟩
  obtain⟨o',c',hs⟩:∃o c,spL k r=(o,c):=⟨_,_,rfl⟩
  unfold spL at h;rw[hd]at h;cases o with
  |none=>
   simp only[xK1,true_and]at h;subst h;exact zEd hd
  |some z=>
   simp only[hs]at h;cases o' with
   |none=>
    simp only[xK1,true_and]at h;subst h;exact ih hs
   |some l'=>simp at h
theorem zHd {k:Nat} {ps:List (Int×Int)} {l:List Int} {e:Int} (h:spL k ps=(some l,e)):l.length=ps.length:=by
 rw[(zFd h).2.1,zD0]
theorem zId {k:Nat} {ps:List (Int×Int)} {l:List Int} {e:Int} (h:spL k ps=(some l,e)) (hb:∀q∈ps,q.1.natAbs<lim∧q.2.natAbs<lim):∀z∈l,z.natAbs<lim:=by
 obtain⟨_,rfl,h3⟩:=zFd h;intro z hz;obtain⟨q,hq,rfl⟩:=xY0.1 hz;exact xLk (hb q hq).1 (hb q hq).2 _ (zH0 Prod.fst (h3 q hq))
def mnZ (k:Nat) (x:Int):Int:=((mnI k x).1).getD 0
theorem zJd {k:Nat} (hk:k<3) (x:Int):mnI k x=(some (mnZ k x),0):=by
 rcases(by omega:k=0∨k=1∨k=2)with h|h|h<;>subst h<;>rfl
end
section
def prs (u v:Bool) (xs ys:List Int) (n:Nat):List (Int×Int):=(List.range n).map fun i=>(xs.getD (if u then 0 else i) 0,ys.getD (if v then 0 else i) 0)
theorem zKd {u v:Bool} {xs ys:List Int} {n:Nat}:(prs u v xs ys n).length=n:=by simp[prs]
theorem zLd {u v:Bool} {xs ys:List Int} {n i:Nat} (h:i<(prs u v xs ys n).length):(prs u v xs ys n)[i]=(xs.getD (if u then 0 else i) 0,ys.getD (if v then 0 else i) 0):=by
 simp[prs]
theorem zMd {u v:Bool} {xs ys:List Int} {n:Nat} (hx:∀x∈xs,x.natAbs<lim) (hy:∀y∈ys,y.natAbs<lim):∀q∈prs u v xs ys n,q.1.natAbs<lim∧q.2.natAbs<lim:=by
 have g:∀(l:List Int) (j:Nat),(∀x∈l,x.natAbs<lim)→(l.getD j 0).natAbs<lim:=by
  intro l j hl;rw[yJ];cases e:l[j]? with
  |none=>simp;exact zZe
  |some x=>exact hl x (yL1 e)
 intro q hq;obtain⟨i,_,rfl⟩:=xY0.1 hq;exact⟨g _ _ hx,g _ _ hy⟩
theorem zNd {es:List ByteArray} (h:∀s∈es,yLe s.data.toList=true):∃xs:List Int,es=xs.map S∧∀x∈xs,x.natAbs<lim:=by
 induction es with
 |nil=>exact⟨[],rfl,fun x hx=>by cases hx⟩
 |cons s r ih=>
  obtain⟨xs,h1,h2⟩:=ih fun t ht=>h t (zN2 _ ht);obtain⟨x,hx,hl⟩:=yTe (h s (zO2 ..));have e:s=S x:=by
   obtain⟨⟨d⟩⟩:=s;show _=(⟨(Lib.itoa x).toArray⟩:ByteArray);have:d=Lib.itoa x:=hx;rw[this]
  refine⟨x::xs,by rw[h1,e];rfl,?_⟩;intro y hy;rcases xN1.1 hy with rfl|hy
  · exact hl
  · exact h2 y hy
end
section
def meE (l k:List Int):Int:=if l=k∨k=[]∨l=[]then 0 else 4
def meV (l k:List Int):List Int:=if l=k∨k=[]then l else if l=[]then k else[]
def prD:List Int→Int
 |[]=>1
 |x::r=>x*prD r
abbrev Ar:=List Int×List Int
def nx (l:List Int):Bool:=decide (l=[])
def dyA (k:Nat):Option Ar→Option Ar→Option Ar×Int
 |some (l,xs),some (m,ys)=>if¬k<11 then(none,1)else if meE l m≠0 then(none,meE l m)else
  match spL k (prs (nx l) (nx m) xs ys (prD (meV l m)).toNat)with
  |(some zs,_)=>(some (meV l m,zs),0)
  |(none,e)=>(none,e)
 |_,_=>(none,1)
def mnA (k:Nat):Option Ar→Option Ar×Int
 |some (l,xs)=>if¬k<3 then(none,1)else(some (l,xs.map (mnZ k)),0)
 |none=>(none,1)
theorem zOd (l k:List Int):meE l k=0∨meE l k=4:=by unfold meE;split<;>simp
theorem zPd (l k:List Int):meE l k=meE k l:=by
 unfold meE;by_cases h:l=k
 · subst h;rfl
 · have h':¬k=l:=fun e=>h e.symm
   simp only[h,h',false_or];by_cases h1:k=[]<;>by_cases h2:l=[]<;>simp[h1,h2]
theorem zQd {l k:List Int} (h:meE l k=0):meV l k=meV k l:=by
 unfold meE at h;unfold meV;by_cases h0:l=k
 · subst h0;rfl
 · have h':¬k=l:=fun e=>h0 e.symm
   simp only[h0,h',false_or]at h ⊢;by_cases h1:k=[]<;>by_cases h2:l=[]<;>simp_all
theorem zRd {k:Nat} (hk:k<11) {l m xs ys:List Int} (h:meE l m=0):dyA k (some (l,xs)) (some (m,ys))=(match spL k (prs (nx l) (nx m) xs ys (prD (meV l m)).toNat)with
 |(some zs,_)=>(some (meV l m,zs),0)
 |(none,e)=>(none,e)):=by
 simp only[dyA];rw[zY yEn,zY (by simp[h])]
theorem zSd {k:Nat} (hk:k<11) {l m xs ys:List Int} (h:meE l m≠0):dyA k (some (l,xs)) (some (m,ys))=(none,4):=by
 have h4:meE l m=4:=by rcases zOd l m with g|g;exact absurd g h;exact g
 simp only[dyA];rw[zY yEn,yA h,h4]
theorem zTd {k:Nat} (hk:¬k<11) (p q:Option Ar):dyA k p q=(none,1):=by
 cases p<;>cases q<;>simp only[dyA]
 rw[yA hk]
theorem zUd {k:Nat} {p q:Option Ar} (h:(p.isSome&&q.isSome)=false):dyA k p q=(none,1):=by
 cases p<;>cases q<;>first|rfl|exact absurd h yHn
theorem zVd (k:Nat) (p q:Option Ar):((dyA k p q).2=0∧(dyA k p q).1.isSome=true)∨((dyA k p q).1=none∧((dyA k p q).2=1∨(dyA k p q).2=4∨(dyA k p q).2=5∨(dyA k p q).2=8)):=by
 by_cases hk:k<11
 · cases p with
   |none=>exact .inr ⟨rfl,.inl rfl⟩
   |some a=>
   cases q with
   |none=>exact .inr ⟨rfl,.inl rfl⟩
   |some b=>
   obtain⟨l,xs⟩:=a;obtain⟨m,ys⟩:=b;by_cases hm:meE l m=0
   · rw[zRd hk hm]
     generalize hs:spL k _=r;obtain⟨o,e⟩:=r;cases o with
     |none=>rcases zGd hs with h|h|h<;>subst h<;>simp
     |some zs=>exact .inl ⟨rfl,rfl⟩
   · rw[zSd hk hm];simp
 · rw[zTd hk];simp
end
section
def zWd (x:Int):Bool:=decide (-1099511627776≤x)&&decide (x≤1099511627776)
theorem zXd {x:Int}:zWd x=true↔ -1099511627776≤x∧x≤1099511627776:=by simp[zWd]
def inM (v:Ar):Int×Int:=if v.1≠[]∨v.2.length≠1 then(0,3)else if zWd (v.2.getD 0 0)then(v.2.getD 0 0,0)else(0,5)
def upM (n:Nat):List Int:=(List.range n).map fun i:Nat=>(i:Int)
def ioM:Option Ar→Option Ar×Int
 |none=>(none,1)
 |some v=>if(inM v).2≠0 then(none,(inM v).2)else if(inM v).1<0 then(none,5)else if 4096<(inM v).1 then(none,8)else(some ([(inM v).1],upM (inM v).1.toNat),0)
def maM (l:List Int):Int:=if l.length=0 then 1 else l.getD 0 0
def taM:Option Ar→Option Ar×Int
 |none=>(none,1)
 |some v=>(some ([],[maM v.1]),0)
def shM:Option Ar→Option Ar×Int
 |none=>(none,1)
 |some v=>(some ([(v.1.length:Int)],v.1),0)
def raM:Option Ar→Option Ar×Int
 |none=>(none,1)
 |some v=>(some ([(v.2.length:Int)],v.2),0)
def reM:Option Ar→Option Ar×Int
 |none=>(none,1)
 |some v=>(some (v.1,rvM v.1 v.2),0)
def fiM:Option Ar→Option Ar×Int
 |none=>(none,1)
 |some v=>(some (v.1.reverse,flM v.1 v.2),0)
def cyM (es:List Int) (n:Nat):List Int:=(List.range n).map fun i:Nat=>es.getD (i%es.length) 0
def rsM:Option Ar→Option Ar→Option Ar×Int
 |some v,some w=>if 1<v.1.length then(none,3)else if v.2.all zWd=false then(none,5)else if szE v.2≠0 then(none,szE v.2)else if pr v.2≠0∧w.2=[]then(none,5)else(some (v.2,cyM w.2 (pr v.2).toNat),0)
 |_,_=>(none,1)
def cuM (w:Ar) (a b:Nat):Ar:=(((b-a:Nat):Int)::w.1.tail,ctM w.1 w.2 a b)
def tkM:Option Ar→Option Ar→Option Ar×Int
 |some v,some w=>if(inM v).2≠0 then(none,(inM v).2)else if w.1=[]then(none,3)else
  if w.1.getD 0 0<(inM v).1∨w.1.getD 0 0< -(inM v).1 then(none,6)else
  if(inM v).1<0 then(some (cuM w (nI w.1-(-(inM v).1).toNat) (nI w.1)),0)else(some (cuM w 0 (inM v).1.toNat),0)
 |_,_=>(none,1)
def drM:Option Ar→Option Ar→Option Ar×Int
 |some v,some w=>if(inM v).2≠0 then(none,(inM v).2)else if w.1=[]then(none,3)else
  if(inM v).1<0 then(some (cuM w 0 (nI w.1-(-(inM v).1).toNat)),0)else(some (cuM w (min (inM v).1.toNat (nI w.1)) (nI w.1)),0)
 |_,_=>(none,1)
def vcM (v:Ar):Ar:=if v.1=[]then([1],v.2)else v
def jnM:Option Ar→Option Ar→Option Ar×Int
 |some v,some w=>if(vcM v).1.length≠(vcM w).1.length then(none,3)else if(vcM v).1.tail≠(vcM w).1.tail then(none,4)else
  if szE (((vcM v).1.getD 0 0+(vcM w).1.getD 0 0)::(vcM v).1.tail)≠0 then(none,szE (((vcM v).1.getD 0 0+(vcM w).1.getD 0 0)::(vcM v).1.tail))else
  (some (((vcM v).1.getD 0 0+(vcM w).1.getD 0 0)::(vcM v).1.tail,v.2++w.2),0)
 |_,_=>(none,1)
theorem zYd {l:List Int} (hl:l≠[]) (h:MayL l):((nI l:Nat):Int)=l.getD 0 0:=by
 have h0:=h.nn 0 (by cases l with|nil=>exact absurd rfl hl|cons x r=>simp);unfold nI;omega
theorem zZd {l:List Int} (hl:l≠[]):l.getD 0 0::l.tail=l:=by
 cases l with
 |nil=>exact absurd rfl hl
 |cons x r=>rfl
theorem yAd {w:Ar} (h:Fits w.1 w.2) (hl:w.1≠[]) {a b:Nat} (hab:a≤b) (hb:b≤nI w.1):Fits (cuM w a b).1 (cuM w a b).2:=by
 obtain⟨l,es⟩:=w;simp only at h hl hb;have hh:=zYd hl h.1;obtain⟨x,r,rfl⟩:∃x r,l=x::r:=by
  cases l with
  |nil=>exact absurd rfl hl
  |cons x r=>exact⟨x,r,rfl⟩
 have hx:((nI (x::r):Nat):Int)=x:=hh;have hr:0≤pr r:=zK9 fun j hj=>h.1.nn (j+1) zPn;have hle:(((b-a:Nat):Int))*pr r≤x*pr r:=zE2 yEn hr;have hp:pr (x::r)=x*pr r:=rfl;refine⟨⟨h.1.len,fun j hj=> ?_,fun j hj=> ?_,?_⟩,?_⟩
 · cases j with
   |zero=>show(0:Int)≤((b-a:Nat):Int);omega
   |succ j=>exact h.1.nn (j+1) (by simpa[cuM]using hj)
 · have h1:=h.1.le 0 yHn
   cases j with
   |zero=>
    show(((b-a:Nat):Int))≤1099511627776;have:x≤1099511627776:=h1;omega
   |succ j=>exact h.1.le (j+1) (by simpa[cuM]using hj)
 · show(((b-a:Nat):Int))*pr r≤4096
   have:=h.1.pr;omega
 · show((ctM (x::r) es a b).length:Int)=(((b-a:Nat):Int))*pr r
   rw[zCd h hl hb];show(((b-a)*(pr r).toNat:Nat):Int)=_;rw[xH0,xC hr]
theorem yBd (v:Ar):(vcM v).1.getD 0 0=maM v.1:=by
 obtain⟨l,es⟩:=v;unfold vcM maM;by_cases h:l=[]
 · subst h;rfl
 · rw[zY h,zY (fun e=>h (yO0.1 e))]
end
section
def Lf (f:Nat→Int) (x y:Nat):Prop:=f x<f y∨(f x=f y∧x<y)
theorem Lf.irr {f:Nat→Int} {x:Nat}:¬Lf f x x:=by unfold Lf;omega
theorem Lf.trans {f:Nat→Int} {x y z:Nat} (h:Lf f x y) (g:Lf f y z):Lf f x z:=by unfold Lf at*;omega
theorem Lf.tri {f:Nat→Int} {x y:Nat} (h:¬Lf f x y):x=y∨Lf f y x:=by unfold Lf at*;omega
theorem Lf.asym {f:Nat→Int} {x y:Nat} (h:Lf f x y):¬Lf f y x:=by unfold Lf at*;omega
theorem Lf.low {f:Nat→Int} {x y z:Nat} (h:¬Lf f y x) (g:¬Lf f z y):¬Lf f z x:=by unfold Lf at*;omega
def swp (a:Nat→Nat) (i j:Nat):Nat→Nat:=fun k=>if k=i then a j else if k=j then a i else a k
theorem yCd {a:Nat→Nat} {i j:Nat}:swp a i j i=a j:=yA rfl
theorem yDd {a:Nat→Nat} {i j:Nat}:swp a i j j=a i:=by
 unfold swp;by_cases h:j=i
 · rw[yA h,h]
 · rw[zY h,yA rfl]
theorem yEd {a:Nat→Nat} {i j k:Nat} (h1:k≠i) (h2:k≠j):swp a i j k=a k:=by unfold swp;rw[zY h1,zY h2]
def Con (a:Nat→Nat) (n:Nat) (v:Nat):Prop:=∃k,k<n∧a k=v
def Inj (a:Nat→Nat) (n:Nat):Prop:=∀i j,i<n→j<n→a i=a j→i=j
theorem Con.swp {a:Nat→Nat} {n i j v:Nat} (hi:i<n) (hj:j<n):Con (swp a i j) n v↔Con a n v:=by
 constructor
 · rintro⟨k,hk,e⟩
   by_cases h1:k=i
   · subst h1;rw[yCd]at e;exact⟨j,hj,e⟩
   · by_cases h2:k=j
     · subst h2;rw[yDd]at e;exact⟨i,hi,e⟩
     · rw[yEd h1 h2]at e;exact⟨k,hk,e⟩
 · rintro⟨k,hk,e⟩
   by_cases h1:k=i
   · subst h1;exact⟨j,hj,by rw[yDd];exact e⟩
   · by_cases h2:k=j
     · subst h2;exact⟨i,hi,by rw[yCd];exact e⟩
     · exact⟨k,hk,by rw[yEd h1 h2];exact e⟩
theorem Inj.swp {a:Nat→Nat} {n i j:Nat} (h:Inj a n) (hi:i<n) (hj:j<n):Inj (swp a i j) n:=by
 intro x y hx hy e;have g:∀z,z<n→∃q,q<n∧Go.Proofs.YtcfbjdplhgdpfaaGreatDoor.swp a i j z=a q∧((z=i∧q=j)∨(z≠i∧z=j∧q=i)∨(z≠i∧z≠j∧q=z)):=by
  intro z hz;by_cases h1:z=i
  · subst h1;exact⟨j,hj,yCd,.inl ⟨rfl,rfl⟩⟩
  · by_cases h2:z=j
    · subst h2;exact⟨i,hi,yDd,.inr (.inl ⟨h1,rfl,rfl⟩)⟩
    · exact⟨z,hz,yEd h1 h2,.inr (.inr ⟨h1,h2,rfl⟩)⟩
 obtain⟨p,hp,e1,c1⟩:=g x hx;obtain⟨q,hq,e2,c2⟩:=g y hy;rw[e1,e2]at e;have:=h _ _ hp hq e;omega
def HP (f:Nat→Int) (a:Nat→Nat) (n i0:Nat):Prop:=∀m,m<n→0<m→i0≤(m-1)/2→¬Lf f (a m) (a ((m-1)/2))
structure Dn (f:Nat→Int) (a:Nat→Nat) (n i0 i:Nat):Prop where
 le:i0≤i
 at_:∀m,m<n→0<m→i0≤(m-1)/2→(m-1)/2≠i→¬Lf f (a m) (a ((m-1)/2))
 up:i0<i→i0≤(i-1)/2∧∀m,m<n→0<m→(m-1)/2=i→¬Lf f (a m) (a ((i-1)/2))
theorem Dn.step {f:Nat→Int} {a:Nat→Nat} {n i0 i j:Nat} (h:Dn f a n i0 i) (hj:j=2*i+1∨j=2*i+2) (hn:j<n) (hl:Lf f (a j) (a i)) (hs:∀m,m<n→0<m→(m-1)/2=i→¬Lf f (a m) (a j)):Dn f (swp a i j) n i0 j:=by
 have hle:=h.le;have hij:i≠j:=by omega
 have hp:(j-1)/2=i:=by omega
 refine⟨by omega,?_,?_⟩
 · intro m h1 h2 h3 h4
   by_cases e1:m=j
   · subst e1
     rw[hp,yDd,yCd];exact hl.asym
   · by_cases e2:(m-1)/2=i
     · rw[e2,yEd yEn e1,yCd]
       exact hs m h1 h2 e2
     · by_cases e3:m=i
       · subst e3
         obtain⟨_,g2⟩:=h.up yEn;rw[yCd,yEd yEn yEn];exact g2 j hn yEn hp
       · rw[yEd e3 e1,yEd e2 h4]
         exact h.at_ m h1 h2 h3 e2
 · intro _
   rw[hp];refine⟨by omega,?_⟩;intro m h1 h2 h3;rw[yCd,yEd yEn yEn];have g:=h.at_ m h1 h2 yEn yEn;rw[h3]at g;exact g
theorem Dn.ends {f:Nat→Int} {a:Nat→Nat} {n i0 i:Nat} (h:Dn f a n i0 i) (he:∀m,m<n→0<m→(m-1)/2=i→¬Lf f (a m) (a i)):HP f a n i0:=by
 intro m h1 h2 h3;by_cases e:(m-1)/2=i
 · rw[e];exact he m h1 h2 e
 · exact h.at_ m h1 h2 h3 e
structure Un (f:Nat→Int) (a:Nat→Nat) (n j:Nat):Prop where
 at_:∀m,m<n→0<m→m≠j→¬Lf f (a m) (a ((m-1)/2))
 up:∀m,m<n→0<m→0<j→(m-1)/2=j→¬Lf f (a m) (a ((j-1)/2))
theorem Un.step {f:Nat→Int} {a:Nat→Nat} {n j:Nat} (h:Un f a n j) (hj:0<j) (hn:j<n) (hl:Lf f (a j) (a ((j-1)/2))):Un f (swp a ((j-1)/2) j) n ((j-1)/2):=by
 obtain⟨i,hi⟩:∃i,i=(j-1)/2:=⟨_,rfl⟩
 rw[←hi]at hl ⊢;have hij:i≠j:=by omega
 refine⟨?_,?_⟩
 · intro m h1 h2 h3
   by_cases e1:m=j
   · subst e1
     rw[←hi,yDd,yCd];exact hl.asym
   · by_cases e2:(m-1)/2=i
     · rw[e2,yEd h3 e1,yCd]
       have g:=h.at_ m h1 h2 e1;rw[e2]at g;exact Lf.low hl.asym g
     · by_cases e3:(m-1)/2=j
       · rw[e3,yDd,yEd h3 e1]
         have g:=h.up m h1 h2 hj e3;rw[←hi]at g;exact g
       · rw[yEd h3 e1,yEd e2 e3]
         exact h.at_ m h1 h2 e1
 · intro m h1 h2 h3 h4
   have gi:=h.at_ i yEn h3 hij;by_cases e1:m=j
   · subst e1
     rw[yDd,yEd yEn yEn];exact gi
   · rw[yEd yEn e1,yEd yEn yEn]
     have g:=h.at_ m h1 h2 e1;rw[h4]at g;exact Lf.low gi g
theorem Un.ends {f:Nat→Int} {a:Nat→Nat} {n j:Nat} (h:Un f a n j) (he:0<j→¬Lf f (a j) (a ((j-1)/2))):HP f a n 0:=by
 intro m h1 h2 _;by_cases e:m=j
 · subst e;exact he h2
 · exact h.at_ m h1 h2 e
theorem Un.start {f:Nat→Int} {a b:Nat→Nat} {n:Nat} (h:HP f a n 0) (hb:∀k,k<n→b k=a k):Un f b (n+1) n:=by
 refine⟨?_,fun m h1 h2 h3 h4=>by omega⟩;intro m h1 h2 h3;rw[hb m yEn,hb _ yEn];exact h m yEn h2 (xJ _)
theorem HP.least {f:Nat→Int} {a:Nat→Nat} {n:Nat} (h:HP f a n 0):∀m,m<n→¬Lf f (a m) (a 0):=by
 intro m;induction m using Nat.strongRecOn with
 |ind m ih=>
  intro hm;by_cases h0:m=0
  · subst h0;exact Lf.irr
  · exact Lf.low (ih ((m-1)/2) yEn yEn) (h m hm yEn (xJ _))
theorem Dn.popped {f:Nat→Int} {a:Nat→Nat} {n:Nat} (h:HP f a (n+1) 0):Dn f (swp a 0 n) n 0 0:=by
 refine⟨zR _,?_,fun h=>by omega⟩;intro m h1 h2 h3 h4;rw[yEd yEn yEn,yEd yEn yEn];exact h m yEn h2 h3
theorem yFd {f:Nat→Int} {l m:List Nat} (hl:l.Pairwise (Lf f)) (hm:m.Pairwise (Lf f)) (h:∀v,v∈l↔v∈m):l=m:=by
 induction l generalizing m with
 |nil=>
  cases m with
  |nil=>rfl
  |cons x r=>exact absurd ((h x).2 (zO2 ..)) yHn
 |cons x r ih=>
  cases m with
  |nil=>exact absurd ((h x).1 (zO2 ..)) yHn
  |cons y s=>
   rw[yV2]at hl hm;have e:x=y:=by
    rcases xN1.1 ((h x).1 (zO2 ..))with e|e
    · exact e
    · rcases xN1.1 ((h y).2 (zO2 ..))with e2|e2
      · exact e2.symm
      · exact absurd (hl.1 y e2) (hm.1 x e).asym
   subst e;congr 1
   refine ih hl.2 hm.2 fun v=> ?_;constructor
   · intro hv
     rcases xN1.1 ((h v).1 (zN2 _ hv))with e|e
     · subst e;exact absurd (hl.1 v hv) Lf.irr
     · exact e
   · intro hv
     rcases xN1.1 ((h v).2 (zN2 _ hv))with e|e
     · subst e;exact absurd (hm.1 v hv) Lf.irr
     · exact e
structure Ord (f:Nat→Int) (n:Nat) (l:List Nat):Prop where
 lt:l.Pairwise (Lf f)
 all:∀v,v∈l↔v<n
theorem Ord.one {f:Nat→Int} {n:Nat} {l m:List Nat} (h:Ord f n l) (g:Ord f n m):l=m:=yFd h.lt g.lt fun v=>(h.all v).trans (g.all v).symm
structure Out (f:Nat→Int) (N:Nat) (out:List Nat) (a:Nat→Nat) (n:Nat):Prop where
 hp:HP f a n 0
 inj:Inj a n
 lt:out.Pairwise (Lf f)
 ahead:∀v,v∈out→∀k,k<n→Lf f v (a k)
 all:∀v,v<N↔v∈out∨Con a n v
theorem Out.ends {f:Nat→Int} {N:Nat} {out:List Nat} {a:Nat→Nat} (h:Out f N out a 0):Ord f N out:=
 ⟨h.lt,fun v=>((h.all v).trans ⟨fun h=>h.elim id fun⟨k,hk,_⟩=>by omega,.inl⟩).symm⟩
theorem Out.pop {f:Nat→Int} {N:Nat} {out:List Nat} {a b:Nat→Nat} {n:Nat} (h:Out f N out a (n+1)) (hb:HP f b n 0) (hi:Inj b n) (hc:∀v,Con b n v↔Con (swp a 0 n) n v):Out f N (out++[a 0]) b n:=by
 have hs:Inj (swp a 0 n) (n+1):=h.inj.swp yEn yEn;have hcon:∀k,k<n→∃j,0<j∧j<n+1∧b k=a j:=by
  intro k hk;obtain⟨j,hj,e⟩:=(hc (b k)).1 ⟨k,hk,rfl⟩;by_cases h0:j=0
  · subst h0
    rw[yCd]at e;exact⟨n,by omega,by omega,e.symm⟩
  · rw[yEd h0 yEn]at e
    exact⟨j,by omega,by omega,e.symm⟩
 refine⟨hb,hi,?_,?_,?_⟩
 · rw[List.pairwise_append]
   refine⟨h.lt,List.pairwise_singleton _ _,?_⟩;intro v hv w hw;rw[zM]at hw;subst hw;exact h.ahead v hv 0 yEn
 · intro v hv k hk
   obtain⟨j,h0,hj,e⟩:=hcon k hk;rw[e];rcases xF1.1 hv with hv|hv
   · exact h.ahead v hv j hj
   · rw[zM]at hv
     subst hv;rcases Lf.tri (h.hp.least j hj)with g|g
     · have:=h.inj _ _ hj yEn g;omega
     · exact g
 · intro v
   rw[h.all v,hc v];constructor
   · rintro(hv|⟨k,hk,e⟩)
     · exact .inl (List.mem_append_left _ hv)
     · by_cases h0:k=0
       · subst h0;exact .inl (List.mem_append_right _ (by rw[zM];exact e.symm))
       · by_cases hn:k=n
         · subst hn
           exact .inr ⟨0,by omega,by rw[yCd];exact e⟩
         · exact .inr ⟨k,by omega,by rw[yEd h0 hn];exact e⟩
   · rintro(hv|⟨k,hk,e⟩)
     · rcases xF1.1 hv with hv|hv
       · exact .inl hv
       · rw[zM]at hv
         exact .inr ⟨0,by omega,hv.symm⟩
     · by_cases h0:k=0
       · subst h0
         rw[yCd]at e;exact .inr ⟨n,by omega,e⟩
       · rw[yEd h0 yEn]at e
         exact .inr ⟨k,by omega,e⟩
end
section
def mg (f:Nat→Int):List Nat→List Nat→List Nat
 |[],b=>b
 |x::a,[]=>x::a
 |x::a,y::b=>if f x≤f y then x::mg f a (y::b)else y::mg f (x::a) b
termination_by a b=>a.length+b.length
theorem yGd (f:Nat→Int) (b:List Nat):mg f [] b=b:=by unfold mg;rfl
theorem yHd (f:Nat→Int) (a:List Nat):mg f a []=a:=by
 cases a with
 |nil=>exact yGd f []
 |cons x a=>unfold mg;rfl
theorem yId {f:Nat→Int} {x y:Nat} {a b:List Nat} (h:f x≤f y):mg f (x::a) (y::b)=x::mg f a (y::b):=by
 rw[mg,yA h]
theorem yJd {f:Nat→Int} {x y:Nat} {a b:List Nat} (h:¬f x≤f y):mg f (x::a) (y::b)=y::mg f (x::a) b:=by
 rw[mg,zY h]
theorem yKd {f:Nat→Int}:∀(n:Nat) (a b:List Nat),a.length+b.length≤n→∀v,v∈mg f a b↔v∈a∨v∈b
 |n,[],b,_,v=>by rw[yGd];simp
 |n,x::a,[],_,v=>by rw[yHd];simp
 | 0,x::a,y::b,h,v=>by simp at h
 |n+1,x::a,y::b,h,v=>by
  simp only[yC1]at h;by_cases g:f x≤f y
  · rw[yId g]
    have e:=yKd (f:=f) n a (y::b) xWm v;simp only[xN1]at e ⊢;rw[e,or_assoc]
  · rw[yJd g,xN1,yKd n (x::a) b xWm v,xN1 (l:=b)]
    constructor
    · rintro(h|h|h)
      · exact .inr (.inl h)
      · exact .inl h
      · exact .inr (.inr h)
    · rintro(h|h|h)
      · exact .inr (.inl h)
      · exact .inl h
      · exact .inr (.inr h)
theorem yLd {f:Nat→Int}:∀(n:Nat) (a b:List Nat),a.length+b.length≤n→a.Pairwise (Lf f)→b.Pairwise (Lf f)→(∀x∈a,∀y∈b,x<y)→(mg f a b).Pairwise (Lf f)
 |n,[],b,_,_,hb,_=>by rw[yGd];exact hb
 |n,x::a,[],_,ha,_,_=>by rw[yHd];exact ha
 | 0,x::a,y::b,h,_,_,_=>by simp at h
 |n+1,x::a,y::b,h,ha,hb,hab=>by
  simp only[yC1]at h;have ha':=yV2.1 ha;have hb':=yV2.1 hb;have hxy:=hab x (zO2 ..) y (zO2 ..);by_cases g:f x≤f y
  · rw[yId g,yV2]
    have hx:Lf f x y:=by unfold Lf;omega
    refine⟨?_,yLd n a (y::b) xWm ha'.2 hb fun p hp q hq=>hab p (zN2 _ hp) q hq⟩;intro v hv;rcases(yKd _ a (y::b) (zR _) v).1 hv with hv|hv
    · exact ha'.1 v hv
    · rcases xN1.1 hv with e|hv
      · rw[e];exact hx
      · exact hx.trans (hb'.1 v hv)
  · rw[yJd g,yV2]
    have hx:Lf f y x:=by unfold Lf;omega
    refine⟨?_,yLd n (x::a) b xWm ha hb'.2 fun p hp q hq=>hab p hp q (zN2 _ hq)⟩;intro v hv;rcases(yKd _ (x::a) b (zR _) v).1 hv with hv|hv
    · rcases xN1.1 hv with e|hv
      · rw[e];exact hx
      · exact hx.trans (ha'.1 v hv)
    · exact hb'.1 v hv
structure Orr (f:Nat→Int) (p q:Nat) (l:List Nat):Prop where
 lt:l.Pairwise (Lf f)
 all:∀v,v∈l↔p≤v∧v<q
theorem Orr.none {f:Nat→Int} {p q:Nat} (h:q≤p):Orr f p q []:=⟨List.Pairwise.nil,fun v=>⟨fun h=>(by cases h),fun h=>yEn⟩⟩
theorem Orr.one {f:Nat→Int} {p:Nat}:Orr f p (p+1) [p]:=⟨List.pairwise_singleton _ _,fun v=>by rw[zM];omega⟩
theorem Orr.merged {f:Nat→Int} {p m q:Nat} {a b:List Nat} (h1:p≤m) (h2:m≤q) (ha:Orr f p m a) (hb:Orr f m q b):Orr f p q (mg f a b):=
 ⟨yLd _ a b (zR _) ha.lt hb.lt fun x hx y hy=>by have:=(ha.all x).1 hx;have:=(hb.all y).1 hy;omega,
  fun v=>by rw[yKd _ a b (zR _) v,ha.all v,hb.all v];omega⟩
theorem Orr.ord {f:Nat→Int} {n:Nat} {l:List Nat} (h:Orr f 0 n l):Ord f n l:=⟨h.lt,fun v=>by rw[h.all v];omega⟩
theorem Ord.len {f:Nat→Int} {n:Nat} {l:List Nat} (h:Ord f n l):l.length=n:=by
 have nd:l.Nodup:=h.lt.imp fun{a b} (g:Lf f a b)=>by intro e;subst e;exact Lf.irr g
 have hp:l.Perm (List.range n):=(List.perm_ext_iff_of_nodup nd List.nodup_range).2 fun v=>by rw[h.all v,zU0]
 rw[hp.length_eq,List.length_range]
end
section
def fpS {α:Type} [DecidableEq α]:List α→α→Nat
 |[],_=>0
 |y::r,x=>if y=x then 0 else fpS r x+1
section
variable {α:Type} [DecidableEq α]
theorem yMd (l:List α) (x:α):fpS l x≤l.length:=by
 induction l with
 |nil=>exact zR _
 |cons y r ih=>
  unfold fpS;split
  · exact xJ _
  · simp only[yC1];omega
theorem yNd {l:List α} {x:α} (h:fpS l x<l.length):l[fpS l x]?=some x:=by
 induction l with
 |nil=>cases h
 |cons y r ih=>
  by_cases hy:y=x
  · have e:fpS (y::r) x=0:=by unfold fpS;rw[yA hy]
    rw[e,hy];rfl
  · have e:fpS (y::r) x=fpS r x+1:=by show(if y=x then 0 else fpS r x+1)=_;rw[zY hy]
    rw[e]at h ⊢;simp only[yC1]at h;rw[List.getElem?_cons_succ];exact ih yEn
theorem yOd {l:List α} {x:α} {k:Nat} (h:k<fpS l x):l[k]?≠some x:=by
 induction l generalizing k with
 |nil=>cases h
 |cons y r ih=>
  by_cases hy:y=x
  · have e:fpS (y::r) x=0:=by unfold fpS;rw[yA hy]
    omega
  · have e:fpS (y::r) x=fpS r x+1:=by show(if y=x then 0 else fpS r x+1)=_;rw[zY hy]
    cases k with
    |zero=>intro hk;simp at hk;exact hy hk
    |succ k=>rw[List.getElem?_cons_succ];exact ih yEn
theorem yPd {l:List α} {x:α}:fpS l x<l.length↔x∈l:=by
 constructor
 · intro h
   exact yL1 (yNd h)
 · intro h
   obtain⟨j,hj,e⟩:=yP h;rcases zM1 (fpS l x) l.length with h1|h1
   · exact h1
   · exact absurd ((yM hj).trans (zH0 some e)) (yOd yEn)
theorem yQd {l:List α} {x:α} {k:Nat} (hk:k<l.length) (h1:l[k]?=some x) (h2:∀j,j<k→l[j]?≠some x):fpS l x=k:=by
 rcases yT2 (fpS l x) k with h|h|h
 · exact absurd (yNd yEn) (h2 _ h)
 · exact h
 · exact absurd h1 (yOd h)
def unS:List α→List α
 |[]=>[]
 |y::r=>y::(unS r).filter fun z=>decide (z≠y)
theorem yRd {l:List α} {x:α}:x∈unS l↔x∈l:=by
 induction l with
 |nil=>simp[unS]
 |cons y r ih=>
  unfold unS;rw[xN1,yW2,ih,xN1];by_cases h:x=y
  · simp[h]
  · simp[h]
theorem ySd (l:List α):(unS l).length≤l.length:=by
 induction l with
 |nil=>exact zR _
 |cons y r ih=>
  unfold unS;have:=List.length_filter_le (fun z=>decide (z≠y)) (unS r);simp only[yC1];omega
theorem yTd (l:List α) (x:α):unS (l++[x])=unS l++(if x∈l then[]else[x]):=by
 induction l with
 |nil=>simp[unS]
 |cons y r ih=>
  show y::(unS (r++[x])).filter _=_;rw[ih,List.filter_append];show _=(y::(unS r).filter fun z=>decide (z≠y))++_;rw[zW1];congr 2
  by_cases h1:x∈r
  · simp[h1]
  · by_cases h2:x=y
    · simp[h2]
    · simp[h1,h2]
end
def whS:Nat→List Nat→List Nat
 |_,[]=>[]
 |i,n::r=>List.replicate n i++whS (i+1) r
theorem yUd (i:Nat) (l:List Nat):(whS i l).length=l.sum:=by
 induction l generalizing i with
 |nil=>rfl
 |cons n r ih=>simp[whS,ih]
theorem yVd {i:Nat} {l:List Nat} {p:Nat} (h:p∈whS i l):i≤p∧p<i+l.length:=by
 induction l generalizing i with
 |nil=>cases h
 |cons n r ih=>
  rcases xF1.1 h with h|h
  · rw[List.mem_replicate]at h
    simp only[yC1];omega
  · have:=ih h
    simp only[yC1];omega
theorem yWd (i:Nat) (l:List Nat) (n:Nat):whS i (l++[n])=whS i l++List.replicate n (i+l.length):=by
 induction l generalizing i with
 |nil=>simp[whS]
 |cons m r ih=>
  show List.replicate m i++whS (i+1) (r++[n])=_;rw[ih];show _=(List.replicate m i++whS (i+1) r)++_;rw[xA,yC1,show i+1+r.length=i+(r.length+1)by omega]
section
variable {α:Type}
end
end
end Go.Proofs.YtcfbjdplhgdpfaaGreatDoor

import Derived.Test.YtbijncndjlmmdaaGreatDoorMaj
import Derived.Test.YtbijncndjlmmdaaGreatDoorMam
import Derived.WalkKit
namespace Go.Proofs.YtbijncndjlmmdaaGreatDoor
set_option linter.unusedVariables false
set_option linter.unusedSimpArgs false
def spL (k:Nat):List (Int×Int)→Option (List Int)×Int
 |[]=>(some [],0)
 |q::r=>match dyI k q.1 q.2 with
  |(some z,_)=>match spL k r with
   |(some l,_)=>(some (z::l),0)
   |(none,e)=>(none,e)
  |(none,e)=>(none,e)
def dyZ (k:Nat) (q:Int×Int):Int:=((dyI k q.1 q.2).1).getD 0
theorem dyI_ok {k:Nat} {x y z e:Int} (h:dyI k x y=(some z,e)):e=0:=by
 rcases @dyI_none k x y with⟨h1,_⟩|⟨h1,_⟩
 · rw[h]at h1;exact h1
 · rw[h]at h1;cases h1
theorem dyI_no {k:Nat} {x y e:Int} (h:dyI k x y=(none,e)):e=1∨e=5∨e=8:=by
 rcases @dyI_none k x y with⟨_,h1⟩|⟨_,h1⟩
 · rw[h]at h1;cases h1
 · rw[h]at h1;exact h1
theorem spL_ok {k:Nat} {ps:List (Int×Int)} {l:List Int} {e:Int} (h:spL k ps=(some l,e)):e=0∧l=ps.map (dyZ k)∧∀q∈ps,dyI k q.1 q.2=(some (dyZ k q),0):=by
 induction ps generalizing l e with
 |nil=>cases h;exact⟨rfl,rfl,fun q hq=>by cases hq⟩
 |cons q r ih=>
  obtain⟨o,c,hd⟩:∃o c,dyI k q.1 q.2=(o,c):=⟨_,_,rfl⟩
  obtain⟨o',c',hs⟩:∃o c,spL k r=(o,c):=⟨_,_,rfl⟩
  unfold spL at h
  rw[hd]at h
  cases o with
  |none=>simp at h
  |some z=>
   simp only[hs]at h
   cases o' with
   |none=>simp at h
   |some l'=>
    simp only[Prod.mk.injEq,Option.some.injEq]at h
    obtain⟨rfl,rfl⟩:=h
    obtain⟨_,h2,h3⟩:=ih hs
    have hz:dyZ k q=z:=by unfold dyZ;rw[hd];rfl
    have hc:=dyI_ok hd
    subst hc
    refine⟨rfl,by rw[List.map_cons,hz,h2],?_⟩
    intro q' hq'
    rcases List.mem_cons.1 hq' with rfl|h
    · rw[hz];exact hd
    · exact h3 q' h
theorem spL_of {k:Nat} {ps:List (Int×Int)} (h:∀q∈ps,dyI k q.1 q.2=(some (dyZ k q),0)):spL k ps=(some (ps.map (dyZ k)),0):=by
 induction ps with
 |nil=>rfl
 |cons q r ih=>
  unfold spL
  rw[h q (List.mem_cons_self ..),ih fun q' hq'=>h q' (List.mem_cons_of_mem _ hq')]
  rfl
theorem spL_no {k:Nat} {ps:List (Int×Int)} {e:Int} (h:spL k ps=(none,e)):e=1∨e=5∨e=8:=by
 induction ps generalizing e with
 |nil=>cases h
 |cons q r ih=>
  obtain⟨o,c,hd⟩:∃o c,dyI k q.1 q.2=(o,c):=⟨_,_,rfl⟩
  obtain⟨o',c',hs⟩:∃o c,spL k r=(o,c):=⟨_,_,rfl⟩
  unfold spL at h
  rw[hd]at h
  cases o with
  |none=>
   simp only[Prod.mk.injEq,true_and]at h
   subst h
   exact dyI_no hd
  |some z=>
   simp only[hs]at h
   cases o' with
   |none=>
    simp only[Prod.mk.injEq,true_and]at h
    subst h
    exact ih hs
   |some l'=>simp at h
theorem spL_part {k:Nat} {ps qs:List (Int×Int)} {l:List Int} {e:Int} (h:spL k ps=(some l,e)) (hq:∀q∈qs,q∈ps):spL k qs=(some (qs.map (dyZ k)),0):=
 spL_of fun q h'=>(spL_ok h).2.2 q (hq q h')
theorem spL_len {k:Nat} {ps:List (Int×Int)} {l:List Int} {e:Int} (h:spL k ps=(some l,e)):l.length=ps.length:=by
 rw[(spL_ok h).2.1,List.length_map]
theorem spL_bd {k:Nat} {ps:List (Int×Int)} {l:List Int} {e:Int} (h:spL k ps=(some l,e)) (hb:∀q∈ps,q.1.natAbs<lim∧q.2.natAbs<lim):∀z∈l,z.natAbs<lim:=by
 obtain⟨_,rfl,h3⟩:=spL_ok h
 intro z hz
 obtain⟨q,hq,rfl⟩:=List.mem_map.1 hz
 exact dyI_bd (hb q hq).1 (hb q hq).2 _ (congrArg Prod.fst (h3 q hq))
def mnZ (k:Nat) (x:Int):Int:=((mnI k x).1).getD 0
theorem mnI_ok {k:Nat} (hk:k<3) (x:Int):mnI k x=(some (mnZ k x),0):=by
 rcases(by omega:k=0∨k=1∨k=2)with h|h|h<;>subst h<;>rfl
end Go.Proofs.YtbijncndjlmmdaaGreatDoor
namespace Go.Proofs.YtbijncndjlmmdaaGreatDoor
set_option linter.unusedVariables false
set_option linter.unusedSimpArgs false
def prs (u v:Bool) (xs ys:List Int) (n:Nat):List (Int×Int):=(List.range n).map fun i=>(xs.getD (if u then 0 else i) 0,ys.getD (if v then 0 else i) 0)
theorem prs_length {u v:Bool} {xs ys:List Int} {n:Nat}:(prs u v xs ys n).length=n:=by simp[prs]
theorem prs_get {u v:Bool} {xs ys:List Int} {n i:Nat} (h:i<(prs u v xs ys n).length):(prs u v xs ys n)[i]=(xs.getD (if u then 0 else i) 0,ys.getD (if v then 0 else i) 0):=by
 simp[prs]
def itm (u:Bool) (xs:List Int) (k i:Nat):List Int:=if u then xs else(xs.drop (i*k)).take k
theorem itm_at {u u':Bool} {xs:List Int} {k i j:Nat} (hj:j<k) (h1:u=true→u'=true) (h2:u=false→u'=true→k=1):(itm u xs k i).getD (if u' then 0 else j) 0=xs.getD (if u then 0 else i*k+j) 0:=by
 cases u with
 |true=>rw[h1 rfl];rfl
 |false=>
  have e:(if u' then 0 else j)=j:=by
   cases u' with
   |false=>rfl
   |true=>have:=h2 rfl rfl;simp;omega
  rw[e]
  simp only[itm,Bool.false_eq_true,if_false,List.getD_eq_getElem?_getD]
  rw[List.getElem?_take_of_lt hj,List.getElem?_drop]
theorem prs_item {u v u' v':Bool} {xs ys:List Int} {n k i:Nat} (h:(i+1)*k≤n) (h1:u=true→u'=true) (h2:u=false→u'=true→k=1) (h3:v=true→v'=true) (h4:v=false→v'=true→k=1):
 ((prs u v xs ys n).drop (i*k)).take k=prs u' v' (itm u xs k i) (itm v ys k i) k:=by
 have e:(i+1)*k=i*k+k:=by rw[Nat.add_mul];omega
 apply List.ext_getElem
 · simp only[List.length_take,List.length_drop,prs_length];omega
 · intro j g1 g2
   have hj:j<k:=by rw[prs_length]at g2;exact g2
   rw[List.getElem_take,List.getElem_drop,prs_get,prs_get,itm_at hj h1 h2,itm_at hj h3 h4]
theorem spL_item {s:Nat} {u v u' v':Bool} {xs ys:List Int} {n k i:Nat} (h:(i+1)*k≤n) (h1:u=true→u'=true) (h2:u=false→u'=true→k=1) (h3:v=true→v'=true) (h4:v=false→v'=true→k=1) {l:List Int} {e:Int} (hs:spL s (prs u v xs ys n)=(some l,e)):
 spL s (prs u' v' (itm u xs k i) (itm v ys k i) k)=(some ((l.drop (i*k)).take k),0):=by
 rw[←prs_item h h1 h2 h3 h4,spL_part hs (fun q hq=>List.mem_of_mem_drop (List.mem_of_mem_take hq)),(spL_ok hs).2.1,List.map_take,List.map_drop]
theorem prs_bd {u v:Bool} {xs ys:List Int} {n:Nat} (hx:∀x∈xs,x.natAbs<lim) (hy:∀y∈ys,y.natAbs<lim):∀q∈prs u v xs ys n,q.1.natAbs<lim∧q.2.natAbs<lim:=by
 have g:∀(l:List Int) (j:Nat),(∀x∈l,x.natAbs<lim)→(l.getD j 0).natAbs<lim:=by
  intro l j hl
  rw[List.getD_eq_getElem?_getD]
  cases e:l[j]? with
  |none=>simp;exact lim_pos
  |some x=>exact hl x (List.mem_of_getElem? e)
 intro q hq
 obtain⟨i,_,rfl⟩:=List.mem_map.1 hq
 exact⟨g _ _ hx,g _ _ hy⟩
theorem nums_of {es:List ByteArray} (h:∀s∈es,mayL s.data.toList=true):∃xs:List Int,es=xs.map S∧∀x∈xs,x.natAbs<lim:=by
 induction es with
 |nil=>exact⟨[],rfl,fun x hx=>by cases hx⟩
 |cons s r ih=>
  obtain⟨xs,h1,h2⟩:=ih fun t ht=>h t (List.mem_cons_of_mem _ ht)
  obtain⟨x,hx,hl⟩:=mayL_is (h s (List.mem_cons_self ..))
  have e:s=S x:=by
   obtain⟨⟨d⟩⟩:=s
   show _=(⟨(Lib.itoa x).toArray⟩:ByteArray)
   have:d=Lib.itoa x:=hx
   rw[this]
  refine⟨x::xs,by rw[h1,e];rfl,?_⟩
  intro y hy
  rcases List.mem_cons.1 hy with rfl|hy
  · exact hl
  · exact h2 y hy
end Go.Proofs.YtbijncndjlmmdaaGreatDoor
namespace Go.Proofs.YtbijncndjlmmdaaGreatDoor
set_option linter.unusedVariables false
set_option linter.unusedSimpArgs false
def meE (l k:List Int):Int:=if l=k∨k=[]∨l=[]then 0 else 4
def meV (l k:List Int):List Int:=if l=k∨k=[]then l else if l=[]then k else[]
def prD:List Int→Int
 |[]=>1
 |x::r=>x*prD r
abbrev Ar:=List Int×List Int
def nx (l:List Int):Bool:=decide (l=[])
def dyA (k:Nat):Option Ar→Option Ar→Option Ar×Int
 |some (l,xs),some (m,ys)=>if¬k<11 then(none,1)else if meE l m≠0 then(none,meE l m)else
  match spL k (prs (nx l) (nx m) xs ys (prD (meV l m)).toNat)with
  |(some zs,_)=>(some (meV l m,zs),0)
  |(none,e)=>(none,e)
 |_,_=>(none,1)
def mnA (k:Nat):Option Ar→Option Ar×Int
 |some (l,xs)=>if¬k<3 then(none,1)else(some (l,xs.map (mnZ k)),0)
 |none=>(none,1)
theorem meE_cases (l k:List Int):meE l k=0∨meE l k=4:=by unfold meE;split<;>simp
theorem meE_turn (l k:List Int):meE l k=meE k l:=by
 unfold meE
 by_cases h:l=k
 · subst h;rfl
 · have h':¬k=l:=fun e=>h e.symm
   simp only[h,h',false_or]
   by_cases h1:k=[]<;>by_cases h2:l=[]<;>simp[h1,h2]
theorem meV_turn {l k:List Int} (h:meE l k=0):meV l k=meV k l:=by
 unfold meE at h
 unfold meV
 by_cases h0:l=k
 · subst h0;rfl
 · have h':¬k=l:=fun e=>h0 e.symm
   simp only[h0,h',false_or]at h ⊢
   by_cases h1:k=[]<;>by_cases h2:l=[]<;>simp_all
theorem meV_self (l:List Int):meV l l=l∧meE l l=0:=by simp[meV,meE]
theorem dyA_two {k:Nat} (hk:k<11) {l m xs ys:List Int} (h:meE l m=0):dyA k (some (l,xs)) (some (m,ys))=(match spL k (prs (nx l) (nx m) xs ys (prD (meV l m)).toNat)with
 |(some zs,_)=>(some (meV l m,zs),0)
 |(none,e)=>(none,e)):=by
 simp only[dyA]
 rw[if_neg (by omega),if_neg (by simp[h])]
theorem dyA_shape {k:Nat} (hk:k<11) {l m xs ys:List Int} (h:meE l m≠0):dyA k (some (l,xs)) (some (m,ys))=(none,4):=by
 have h4:meE l m=4:=by rcases meE_cases l m with g|g;exact absurd g h;exact g
 simp only[dyA]
 rw[if_neg (by omega),if_pos h,h4]
theorem dyA_none {k:Nat} (hk:¬k<11) (p q:Option Ar):dyA k p q=(none,1):=by
 cases p<;>cases q<;>simp only[dyA]
 rw[if_pos hk]
theorem dyA_arg {k:Nat} {p q:Option Ar} (h:(p.isSome&&q.isSome)=false):dyA k p q=(none,1):=by
 cases p<;>cases q<;>first|rfl|exact absurd h (by simp)
theorem dyA_end (k:Nat) (p q:Option Ar):((dyA k p q).2=0∧(dyA k p q).1.isSome=true)∨((dyA k p q).1=none∧((dyA k p q).2=1∨(dyA k p q).2=4∨(dyA k p q).2=5∨(dyA k p q).2=8)):=by
 by_cases hk:k<11
 · cases p with
   |none=>exact .inr ⟨rfl,.inl rfl⟩
   |some a=>
   cases q with
   |none=>exact .inr ⟨rfl,.inl rfl⟩
   |some b=>
   obtain⟨l,xs⟩:=a
   obtain⟨m,ys⟩:=b
   by_cases hm:meE l m=0
   · rw[dyA_two hk hm]
     generalize hs:spL k _=r
     obtain⟨o,e⟩:=r
     cases o with
     |none=>rcases spL_no hs with h|h|h<;>subst h<;>simp
     |some zs=>exact .inl ⟨rfl,rfl⟩
   · rw[dyA_shape hk hm];simp
 · rw[dyA_none hk];simp
def itA (l xs:List Int) (i:Nat):Ar:=if l=[]then(l,xs)else(l.tail,(xs.drop (i*(prD l.tail).toNat)).take (prD l.tail).toNat)
theorem meV_tail {l m:List Int} (h:meE l m=0) (hs:meV l m≠[]):(l=[]∨l=meV l m)∧(m=[]∨m=meV l m)∧meE l.tail m.tail=0∧meV l.tail m.tail=(meV l m).tail:=by
 unfold meE at h
 unfold meV at hs ⊢
 unfold meE
 by_cases h0:l=m
 · subst h0;simp
 · by_cases h1:m=[]
   · subst h1;simp
   · by_cases h2:l=[]
     · subst h2;simp[h0,h1]
     · simp[h0,h1,h2]at h
theorem dyA_items {k:Nat} {l m xs ys s zs:List Int} {i:Nat} (h:dyA k (some (l,xs)) (some (m,ys))=(some (s,zs),0)) (hs:s≠[]) (hi:(i:Int)<s.getD 0 0) (h0:∀x∈s,0≤x):
 dyA k (some (itA l xs i)) (some (itA m ys i))=(some (itA s zs i),0):=by
 have hk:k<11:=by
  by_cases hk:k<11
  · exact hk
  · rw[dyA_none hk]at h;cases h
 have hm:meE l m=0:=by
  by_cases hm:meE l m=0
  · exact hm
  · rw[dyA_shape hk hm]at h;cases h
 rw[dyA_two hk hm]at h
 generalize hsp:spL k (prs (nx l) (nx m) xs ys (prD (meV l m)).toNat)=r at h
 obtain⟨o,e⟩:=r
 cases o with
 |none=>cases h
 |some z=>
 simp only[Prod.mk.injEq,Option.some.injEq,and_true]at h
 obtain⟨h1,rfl⟩:=h
 obtain⟨g1,g2,g3,g4⟩:=meV_tail hm (by rw[h1];exact hs)
 rw[h1]at g1 g2 g4 hsp
 obtain⟨x,r,rfl⟩:∃x r,s=x::r:=by
  cases s with
  |nil=>exact absurd rfl hs
  |cons x r=>exact⟨x,r,rfl⟩
 have hx:(i:Int)<x:=hi
 have hr:0≤prD r:=by
  have:∀t:List Int,(∀x∈t,0≤x)→0≤prD t:=by
   intro t
   induction t with
   |nil=>intro _;exact(by decide:(0:Int)≤1)
   |cons y t ih=>intro hy;exact Int.mul_nonneg (hy y (List.mem_cons_self ..)) (ih fun z hz=>hy z (List.mem_cons_of_mem _ hz))
  exact this r fun y hy=>h0 y (List.mem_cons_of_mem _ hy)
 obtain⟨kk,hkk⟩:∃kk:Nat,prD r=kk:=⟨(prD r).toNat,by omega⟩
 have hle:(i+1)*kk≤(prD (x::r)).toNat:=by
  show _≤(x*prD r).toNat
  rw[hkk]
  have:((i:Int)+1)*kk≤x*kk:=Int.mul_le_mul_of_nonneg_right (by omega) (by omega)
  have e2:(((i+1)*kk:Nat):Int)=((i:Int)+1)*kk:=by rw[Int.natCast_mul];rfl
  omega
 have side:∀t:List Int,(t=[]∨t=x::r)→(nx t=true→nx t.tail=true)∧(nx t=false→nx t.tail=true→kk=1):=by
  intro t ht
  rcases ht with rfl|rfl
  · exact⟨fun h=>h,fun h=>by simp[nx]at h⟩
  · refine⟨fun h=>by simp[nx]at h,fun _ h=> ?_⟩
    have:r=[]:=of_decide_eq_true h
    subst this
    have:(1:Int)=kk:=hkk
    omega
 have cut:∀(t us:List Int),(t=[]∨t=x::r)→itA t us i=(t.tail,itm (nx t) us kk i):=by
  intro t us ht
  rcases ht with rfl|rfl
  · simp[itA,nx,itm]
  · simp only[itA,nx,itm,List.tail_cons,hkk,Int.toNat_natCast]
    simp
 rw[cut l xs g1,cut m ys g2,dyA_two hk g3,g4,List.tail_cons]
 have:=spL_item hle (side l g1).1 (side l g1).2 (side m g2).1 (side m g2).2 hsp
 rw[show(prD r).toNat=kk by omega,this]
 simp only[itA,List.tail_cons,hkk,Int.toNat_natCast]
 simp
end Go.Proofs.YtbijncndjlmmdaaGreatDoor
namespace Go.Proofs.YtbijncndjlmmdaaGreatDoor
set_option linter.unusedVariables false
set_option linter.unusedSimpArgs false
def nearM (x:Int):Bool:=decide (-1099511627776≤x)&&decide (x≤1099511627776)
theorem nearM_yes {x:Int}:nearM x=true↔ -1099511627776≤x∧x≤1099511627776:=by simp[nearM]
def inM (v:Ar):Int×Int:=if v.1≠[]∨v.2.length≠1 then(0,3)else if nearM (v.2.getD 0 0)then(v.2.getD 0 0,0)else(0,5)
def upM (n:Nat):List Int:=(List.range n).map fun i:Nat=>(i:Int)
def ioM:Option Ar→Option Ar×Int
 |none=>(none,1)
 |some v=>if(inM v).2≠0 then(none,(inM v).2)else if(inM v).1<0 then(none,5)else if 4096<(inM v).1 then(none,8)else(some ([(inM v).1],upM (inM v).1.toNat),0)
def maM (l:List Int):Int:=if l.length=0 then 1 else l.getD 0 0
def taM:Option Ar→Option Ar×Int
 |none=>(none,1)
 |some v=>(some ([],[maM v.1]),0)
def shM:Option Ar→Option Ar×Int
 |none=>(none,1)
 |some v=>(some ([(v.1.length:Int)],v.1),0)
def raM:Option Ar→Option Ar×Int
 |none=>(none,1)
 |some v=>(some ([(v.2.length:Int)],v.2),0)
def reM:Option Ar→Option Ar×Int
 |none=>(none,1)
 |some v=>(some (v.1,rvM v.1 v.2),0)
def fiM:Option Ar→Option Ar×Int
 |none=>(none,1)
 |some v=>(some (v.1.reverse,flM v.1 v.2),0)
def cyM (es:List Int) (n:Nat):List Int:=(List.range n).map fun i:Nat=>es.getD (i%es.length) 0
def rsM:Option Ar→Option Ar→Option Ar×Int
 |some v,some w=>if 1<v.1.length then(none,3)else if v.2.all nearM=false then(none,5)else if szE v.2≠0 then(none,szE v.2)else if pr v.2≠0∧w.2=[]then(none,5)else(some (v.2,cyM w.2 (pr v.2).toNat),0)
 |_,_=>(none,1)
def cuM (w:Ar) (a b:Nat):Ar:=(((b-a:Nat):Int)::w.1.tail,ctM w.1 w.2 a b)
def tkM:Option Ar→Option Ar→Option Ar×Int
 |some v,some w=>if(inM v).2≠0 then(none,(inM v).2)else if w.1=[]then(none,3)else
  if w.1.getD 0 0<(inM v).1∨w.1.getD 0 0< -(inM v).1 then(none,6)else
  if(inM v).1<0 then(some (cuM w (nI w.1-(-(inM v).1).toNat) (nI w.1)),0)else(some (cuM w 0 (inM v).1.toNat),0)
 |_,_=>(none,1)
def drM:Option Ar→Option Ar→Option Ar×Int
 |some v,some w=>if(inM v).2≠0 then(none,(inM v).2)else if w.1=[]then(none,3)else
  if(inM v).1<0 then(some (cuM w 0 (nI w.1-(-(inM v).1).toNat)),0)else(some (cuM w (min (inM v).1.toNat (nI w.1)) (nI w.1)),0)
 |_,_=>(none,1)
def vcM (v:Ar):Ar:=if v.1=[]then([1],v.2)else v
def jnM:Option Ar→Option Ar→Option Ar×Int
 |some v,some w=>if(vcM v).1.length≠(vcM w).1.length then(none,3)else if(vcM v).1.tail≠(vcM w).1.tail then(none,4)else
  if szE (((vcM v).1.getD 0 0+(vcM w).1.getD 0 0)::(vcM v).1.tail)≠0 then(none,szE (((vcM v).1.getD 0 0+(vcM w).1.getD 0 0)::(vcM v).1.tail))else
  (some (((vcM v).1.getD 0 0+(vcM w).1.getD 0 0)::(vcM v).1.tail,v.2++w.2),0)
 |_,_=>(none,1)
theorem nI_head {l:List Int} (hl:l≠[]) (h:MayL l):((nI l:Nat):Int)=l.getD 0 0:=by
 have h0:=h.nn 0 (by cases l with|nil=>exact absurd rfl hl|cons x r=>simp)
 unfold nI
 omega
theorem head_tail {l:List Int} (hl:l≠[]):l.getD 0 0::l.tail=l:=by
 cases l with
 |nil=>exact absurd rfl hl
 |cons x r=>rfl
theorem cuM_fits {w:Ar} (h:Fits w.1 w.2) (hl:w.1≠[]) {a b:Nat} (hab:a≤b) (hb:b≤nI w.1):Fits (cuM w a b).1 (cuM w a b).2:=by
 obtain⟨l,es⟩:=w
 simp only at h hl hb
 have hh:=nI_head hl h.1
 obtain⟨x,r,rfl⟩:∃x r,l=x::r:=by
  cases l with
  |nil=>exact absurd rfl hl
  |cons x r=>exact⟨x,r,rfl⟩
 have hx:((nI (x::r):Nat):Int)=x:=hh
 have hr:0≤pr r:=pr_nonneg fun j hj=>h.1.nn (j+1) (by simpa using hj)
 have hle:(((b-a:Nat):Int))*pr r≤x*pr r:=Int.mul_le_mul_of_nonneg_right (by omega) hr
 have hp:pr (x::r)=x*pr r:=rfl
 refine⟨⟨h.1.len,fun j hj=> ?_,fun j hj=> ?_,?_⟩,?_⟩
 · cases j with
   |zero=>show(0:Int)≤((b-a:Nat):Int);omega
   |succ j=>exact h.1.nn (j+1) (by simpa[cuM]using hj)
 · have h1:=h.1.le 0 (by simp)
   cases j with
   |zero=>
    show(((b-a:Nat):Int))≤1099511627776
    have:x≤1099511627776:=h1
    omega
   |succ j=>exact h.1.le (j+1) (by simpa[cuM]using hj)
 · show(((b-a:Nat):Int))*pr r≤4096
   have:=h.1.pr
   omega
 · show((ctM (x::r) es a b).length:Int)=(((b-a:Nat):Int))*pr r
   rw[ctM_length h hl hb]
   show(((b-a)*(pr r).toNat:Nat):Int)=_
   rw[Int.natCast_mul,Int.toNat_of_nonneg hr]
theorem vcM_head (v:Ar):(vcM v).1.getD 0 0=maM v.1:=by
 obtain⟨l,es⟩:=v
 unfold vcM maM
 by_cases h:l=[]
 · subst h;rfl
 · rw[if_neg h,if_neg (fun e=>h (List.length_eq_zero_iff.1 e))]
end Go.Proofs.YtbijncndjlmmdaaGreatDoor
namespace Go.Proofs.YtbijncndjlmmdaaGreatDoor
set_option linter.unusedVariables false
set_option linter.unusedSimpArgs false
def Lf (f:Nat→Int) (x y:Nat):Prop:=f x<f y∨(f x=f y∧x<y)
theorem Lf.irr {f:Nat→Int} {x:Nat}:¬Lf f x x:=by unfold Lf;omega
theorem Lf.trans {f:Nat→Int} {x y z:Nat} (h:Lf f x y) (g:Lf f y z):Lf f x z:=by unfold Lf at*;omega
theorem Lf.tri {f:Nat→Int} {x y:Nat} (h:¬Lf f x y):x=y∨Lf f y x:=by unfold Lf at*;omega
theorem Lf.asym {f:Nat→Int} {x y:Nat} (h:Lf f x y):¬Lf f y x:=by unfold Lf at*;omega
theorem Lf.low {f:Nat→Int} {x y z:Nat} (h:¬Lf f y x) (g:¬Lf f z y):¬Lf f z x:=by unfold Lf at*;omega
def swp (a:Nat→Nat) (i j:Nat):Nat→Nat:=fun k=>if k=i then a j else if k=j then a i else a k
theorem swp_l {a:Nat→Nat} {i j:Nat}:swp a i j i=a j:=if_pos rfl
theorem swp_r {a:Nat→Nat} {i j:Nat}:swp a i j j=a i:=by
 unfold swp
 by_cases h:j=i
 · rw[if_pos h,h]
 · rw[if_neg h,if_pos rfl]
theorem swp_o {a:Nat→Nat} {i j k:Nat} (h1:k≠i) (h2:k≠j):swp a i j k=a k:=by unfold swp;rw[if_neg h1,if_neg h2]
def Con (a:Nat→Nat) (n:Nat) (v:Nat):Prop:=∃k,k<n∧a k=v
def Inj (a:Nat→Nat) (n:Nat):Prop:=∀i j,i<n→j<n→a i=a j→i=j
theorem Con.swp {a:Nat→Nat} {n i j v:Nat} (hi:i<n) (hj:j<n):Con (swp a i j) n v↔Con a n v:=by
 constructor
 · rintro⟨k,hk,e⟩
   by_cases h1:k=i
   · subst h1;rw[swp_l]at e;exact⟨j,hj,e⟩
   · by_cases h2:k=j
     · subst h2;rw[swp_r]at e;exact⟨i,hi,e⟩
     · rw[swp_o h1 h2]at e;exact⟨k,hk,e⟩
 · rintro⟨k,hk,e⟩
   by_cases h1:k=i
   · subst h1;exact⟨j,hj,by rw[swp_r];exact e⟩
   · by_cases h2:k=j
     · subst h2;exact⟨i,hi,by rw[swp_l];exact e⟩
     · exact⟨k,hk,by rw[swp_o h1 h2];exact e⟩
theorem Inj.swp {a:Nat→Nat} {n i j:Nat} (h:Inj a n) (hi:i<n) (hj:j<n):Inj (swp a i j) n:=by
 intro x y hx hy e
 have g:∀z,z<n→∃q,q<n∧Go.Proofs.YtbijncndjlmmdaaGreatDoor.swp a i j z=a q∧((z=i∧q=j)∨(z≠i∧z=j∧q=i)∨(z≠i∧z≠j∧q=z)):=by
  intro z hz
  by_cases h1:z=i
  · subst h1;exact⟨j,hj,swp_l,.inl ⟨rfl,rfl⟩⟩
  · by_cases h2:z=j
    · subst h2;exact⟨i,hi,swp_r,.inr (.inl ⟨h1,rfl,rfl⟩)⟩
    · exact⟨z,hz,swp_o h1 h2,.inr (.inr ⟨h1,h2,rfl⟩)⟩
 obtain⟨p,hp,e1,c1⟩:=g x hx
 obtain⟨q,hq,e2,c2⟩:=g y hy
 rw[e1,e2]at e
 have:=h _ _ hp hq e
 omega
def HP (f:Nat→Int) (a:Nat→Nat) (n i0:Nat):Prop:=∀m,m<n→0<m→i0≤(m-1)/2→¬Lf f (a m) (a ((m-1)/2))
structure Dn (f:Nat→Int) (a:Nat→Nat) (n i0 i:Nat):Prop where
 le:i0≤i
 at_:∀m,m<n→0<m→i0≤(m-1)/2→(m-1)/2≠i→¬Lf f (a m) (a ((m-1)/2))
 up:i0<i→i0≤(i-1)/2∧∀m,m<n→0<m→(m-1)/2=i→¬Lf f (a m) (a ((i-1)/2))
theorem Dn.step {f:Nat→Int} {a:Nat→Nat} {n i0 i j:Nat} (h:Dn f a n i0 i) (hj:j=2*i+1∨j=2*i+2) (hn:j<n) (hl:Lf f (a j) (a i)) (hs:∀m,m<n→0<m→(m-1)/2=i→¬Lf f (a m) (a j)):Dn f (swp a i j) n i0 j:=by
 have hle:=h.le
 have hij:i≠j:=by omega
 have hp:(j-1)/2=i:=by omega
 refine⟨by omega,?_,?_⟩
 · intro m h1 h2 h3 h4
   by_cases e1:m=j
   · subst e1
     rw[hp,swp_r,swp_l]
     exact hl.asym
   · by_cases e2:(m-1)/2=i
     · rw[e2,swp_o (by omega) e1,swp_l]
       exact hs m h1 h2 e2
     · by_cases e3:m=i
       · subst e3
         obtain⟨_,g2⟩:=h.up (by omega)
         rw[swp_l,swp_o (by omega) (by omega)]
         exact g2 j hn (by omega) hp
       · rw[swp_o e3 e1,swp_o e2 h4]
         exact h.at_ m h1 h2 h3 e2
 · intro _
   rw[hp]
   refine⟨by omega,?_⟩
   intro m h1 h2 h3
   rw[swp_l,swp_o (by omega) (by omega)]
   have g:=h.at_ m h1 h2 (by omega) (by omega)
   rw[h3]at g
   exact g
theorem Dn.ends {f:Nat→Int} {a:Nat→Nat} {n i0 i:Nat} (h:Dn f a n i0 i) (he:∀m,m<n→0<m→(m-1)/2=i→¬Lf f (a m) (a i)):HP f a n i0:=by
 intro m h1 h2 h3
 by_cases e:(m-1)/2=i
 · rw[e];exact he m h1 h2 e
 · exact h.at_ m h1 h2 h3 e
structure Un (f:Nat→Int) (a:Nat→Nat) (n j:Nat):Prop where
 at_:∀m,m<n→0<m→m≠j→¬Lf f (a m) (a ((m-1)/2))
 up:∀m,m<n→0<m→0<j→(m-1)/2=j→¬Lf f (a m) (a ((j-1)/2))
theorem Un.step {f:Nat→Int} {a:Nat→Nat} {n j:Nat} (h:Un f a n j) (hj:0<j) (hn:j<n) (hl:Lf f (a j) (a ((j-1)/2))):Un f (swp a ((j-1)/2) j) n ((j-1)/2):=by
 obtain⟨i,hi⟩:∃i,i=(j-1)/2:=⟨_,rfl⟩
 rw[←hi]at hl ⊢
 have hij:i≠j:=by omega
 refine⟨?_,?_⟩
 · intro m h1 h2 h3
   by_cases e1:m=j
   · subst e1
     rw[←hi,swp_r,swp_l]
     exact hl.asym
   · by_cases e2:(m-1)/2=i
     · rw[e2,swp_o h3 e1,swp_l]
       have g:=h.at_ m h1 h2 e1
       rw[e2]at g
       exact Lf.low hl.asym g
     · by_cases e3:(m-1)/2=j
       · rw[e3,swp_r,swp_o h3 e1]
         have g:=h.up m h1 h2 hj e3
         rw[←hi]at g
         exact g
       · rw[swp_o h3 e1,swp_o e2 e3]
         exact h.at_ m h1 h2 e1
 · intro m h1 h2 h3 h4
   have gi:=h.at_ i (by omega) h3 hij
   by_cases e1:m=j
   · subst e1
     rw[swp_r,swp_o (by omega) (by omega)]
     exact gi
   · rw[swp_o (by omega) e1,swp_o (by omega) (by omega)]
     have g:=h.at_ m h1 h2 e1
     rw[h4]at g
     exact Lf.low gi g
theorem Un.ends {f:Nat→Int} {a:Nat→Nat} {n j:Nat} (h:Un f a n j) (he:0<j→¬Lf f (a j) (a ((j-1)/2))):HP f a n 0:=by
 intro m h1 h2 _
 by_cases e:m=j
 · subst e;exact he h2
 · exact h.at_ m h1 h2 e
theorem Un.start {f:Nat→Int} {a b:Nat→Nat} {n:Nat} (h:HP f a n 0) (hb:∀k,k<n→b k=a k):Un f b (n+1) n:=by
 refine⟨?_,fun m h1 h2 h3 h4=>by omega⟩
 intro m h1 h2 h3
 rw[hb m (by omega),hb _ (by omega)]
 exact h m (by omega) h2 (Nat.zero_le _)
theorem HP.least {f:Nat→Int} {a:Nat→Nat} {n:Nat} (h:HP f a n 0):∀m,m<n→¬Lf f (a m) (a 0):=by
 intro m
 induction m using Nat.strongRecOn with
 |ind m ih=>
  intro hm
  by_cases h0:m=0
  · subst h0;exact Lf.irr
  · exact Lf.low (ih ((m-1)/2) (by omega) (by omega)) (h m hm (by omega) (Nat.zero_le _))
theorem Dn.popped {f:Nat→Int} {a:Nat→Nat} {n:Nat} (h:HP f a (n+1) 0):Dn f (swp a 0 n) n 0 0:=by
 refine⟨Nat.le_refl _,?_,fun h=>by omega⟩
 intro m h1 h2 h3 h4
 rw[swp_o (by omega) (by omega),swp_o (by omega) (by omega)]
 exact h m (by omega) h2 h3
theorem lf_mem {f:Nat→Int} {l m:List Nat} (hl:l.Pairwise (Lf f)) (hm:m.Pairwise (Lf f)) (h:∀v,v∈l↔v∈m):l=m:=by
 induction l generalizing m with
 |nil=>
  cases m with
  |nil=>rfl
  |cons x r=>exact absurd ((h x).2 (List.mem_cons_self ..)) (by simp)
 |cons x r ih=>
  cases m with
  |nil=>exact absurd ((h x).1 (List.mem_cons_self ..)) (by simp)
  |cons y s=>
   rw[List.pairwise_cons]at hl hm
   have e:x=y:=by
    rcases List.mem_cons.1 ((h x).1 (List.mem_cons_self ..))with e|e
    · exact e
    · rcases List.mem_cons.1 ((h y).2 (List.mem_cons_self ..))with e2|e2
      · exact e2.symm
      · exact absurd (hl.1 y e2) (hm.1 x e).asym
   subst e
   congr 1
   refine ih hl.2 hm.2 fun v=> ?_
   constructor
   · intro hv
     rcases List.mem_cons.1 ((h v).1 (List.mem_cons_of_mem _ hv))with e|e
     · subst e;exact absurd (hl.1 v hv) Lf.irr
     · exact e
   · intro hv
     rcases List.mem_cons.1 ((h v).2 (List.mem_cons_of_mem _ hv))with e|e
     · subst e;exact absurd (hm.1 v hv) Lf.irr
     · exact e
structure Ord (f:Nat→Int) (n:Nat) (l:List Nat):Prop where
 lt:l.Pairwise (Lf f)
 all:∀v,v∈l↔v<n
theorem Ord.one {f:Nat→Int} {n:Nat} {l m:List Nat} (h:Ord f n l) (g:Ord f n m):l=m:=lf_mem h.lt g.lt fun v=>(h.all v).trans (g.all v).symm
structure Out (f:Nat→Int) (N:Nat) (out:List Nat) (a:Nat→Nat) (n:Nat):Prop where
 hp:HP f a n 0
 inj:Inj a n
 lt:out.Pairwise (Lf f)
 ahead:∀v,v∈out→∀k,k<n→Lf f v (a k)
 all:∀v,v<N↔v∈out∨Con a n v
theorem Out.ends {f:Nat→Int} {N:Nat} {out:List Nat} {a:Nat→Nat} (h:Out f N out a 0):Ord f N out:=
 ⟨h.lt,fun v=>((h.all v).trans ⟨fun h=>h.elim id fun⟨k,hk,_⟩=>by omega,.inl⟩).symm⟩
theorem Out.pop {f:Nat→Int} {N:Nat} {out:List Nat} {a b:Nat→Nat} {n:Nat} (h:Out f N out a (n+1)) (hb:HP f b n 0) (hi:Inj b n) (hc:∀v,Con b n v↔Con (swp a 0 n) n v):Out f N (out++[a 0]) b n:=by
 have hs:Inj (swp a 0 n) (n+1):=h.inj.swp (by omega) (by omega)
 have hcon:∀k,k<n→∃j,0<j∧j<n+1∧b k=a j:=by
  intro k hk
  obtain⟨j,hj,e⟩:=(hc (b k)).1 ⟨k,hk,rfl⟩
  by_cases h0:j=0
  · subst h0
    rw[swp_l]at e
    exact⟨n,by omega,by omega,e.symm⟩
  · rw[swp_o h0 (by omega)]at e
    exact⟨j,by omega,by omega,e.symm⟩
 refine⟨hb,hi,?_,?_,?_⟩
 · rw[List.pairwise_append]
   refine⟨h.lt,List.pairwise_singleton _ _,?_⟩
   intro v hv w hw
   rw[List.mem_singleton]at hw
   subst hw
   exact h.ahead v hv 0 (by omega)
 · intro v hv k hk
   obtain⟨j,h0,hj,e⟩:=hcon k hk
   rw[e]
   rcases List.mem_append.1 hv with hv|hv
   · exact h.ahead v hv j hj
   · rw[List.mem_singleton]at hv
     subst hv
     rcases Lf.tri (h.hp.least j hj)with g|g
     · have:=h.inj _ _ hj (by omega) g;omega
     · exact g
 · intro v
   rw[h.all v,hc v]
   constructor
   · rintro(hv|⟨k,hk,e⟩)
     · exact .inl (List.mem_append_left _ hv)
     · by_cases h0:k=0
       · subst h0;exact .inl (List.mem_append_right _ (by rw[List.mem_singleton];exact e.symm))
       · by_cases hn:k=n
         · subst hn
           exact .inr ⟨0,by omega,by rw[swp_l];exact e⟩
         · exact .inr ⟨k,by omega,by rw[swp_o h0 hn];exact e⟩
   · rintro(hv|⟨k,hk,e⟩)
     · rcases List.mem_append.1 hv with hv|hv
       · exact .inl hv
       · rw[List.mem_singleton]at hv
         exact .inr ⟨0,by omega,hv.symm⟩
     · by_cases h0:k=0
       · subst h0
         rw[swp_l]at e
         exact .inr ⟨n,by omega,e⟩
       · rw[swp_o h0 (by omega)]at e
         exact .inr ⟨k,by omega,e⟩
end Go.Proofs.YtbijncndjlmmdaaGreatDoor
namespace Go.Proofs.YtbijncndjlmmdaaGreatDoor
set_option linter.unusedVariables false
set_option linter.unusedSimpArgs false
def mg (f:Nat→Int):List Nat→List Nat→List Nat
 |[],b=>b
 |x::a,[]=>x::a
 |x::a,y::b=>if f x≤f y then x::mg f a (y::b)else y::mg f (x::a) b
termination_by a b=>a.length+b.length
theorem mg_nil (f:Nat→Int) (b:List Nat):mg f [] b=b:=by unfold mg;rfl
theorem mg_nil' (f:Nat→Int) (a:List Nat):mg f a []=a:=by
 cases a with
 |nil=>exact mg_nil f []
 |cons x a=>unfold mg;rfl
theorem mg_l {f:Nat→Int} {x y:Nat} {a b:List Nat} (h:f x≤f y):mg f (x::a) (y::b)=x::mg f a (y::b):=by
 rw[mg,if_pos h]
theorem mg_r {f:Nat→Int} {x y:Nat} {a b:List Nat} (h:¬f x≤f y):mg f (x::a) (y::b)=y::mg f (x::a) b:=by
 rw[mg,if_neg h]
theorem mg_mem {f:Nat→Int}:∀(n:Nat) (a b:List Nat),a.length+b.length≤n→∀v,v∈mg f a b↔v∈a∨v∈b
 |n,[],b,_,v=>by rw[mg_nil];simp
 |n,x::a,[],_,v=>by rw[mg_nil'];simp
 | 0,x::a,y::b,h,v=>by simp at h
 |n+1,x::a,y::b,h,v=>by
  simp only[List.length_cons]at h
  by_cases g:f x≤f y
  · rw[mg_l g]
    have e:=mg_mem (f:=f) n a (y::b) (by simp only[List.length_cons];omega) v
    simp only[List.mem_cons]at e ⊢
    rw[e,or_assoc]
  · rw[mg_r g,List.mem_cons,mg_mem n (x::a) b (by simp only[List.length_cons];omega) v,List.mem_cons (l:=b)]
    constructor
    · rintro(h|h|h)
      · exact .inr (.inl h)
      · exact .inl h
      · exact .inr (.inr h)
    · rintro(h|h|h)
      · exact .inr (.inl h)
      · exact .inl h
      · exact .inr (.inr h)
theorem mg_lt {f:Nat→Int}:∀(n:Nat) (a b:List Nat),a.length+b.length≤n→a.Pairwise (Lf f)→b.Pairwise (Lf f)→(∀x∈a,∀y∈b,x<y)→(mg f a b).Pairwise (Lf f)
 |n,[],b,_,_,hb,_=>by rw[mg_nil];exact hb
 |n,x::a,[],_,ha,_,_=>by rw[mg_nil'];exact ha
 | 0,x::a,y::b,h,_,_,_=>by simp at h
 |n+1,x::a,y::b,h,ha,hb,hab=>by
  simp only[List.length_cons]at h
  have ha':=List.pairwise_cons.1 ha
  have hb':=List.pairwise_cons.1 hb
  have hxy:=hab x (List.mem_cons_self ..) y (List.mem_cons_self ..)
  by_cases g:f x≤f y
  · rw[mg_l g,List.pairwise_cons]
    have hx:Lf f x y:=by unfold Lf;omega
    refine⟨?_,mg_lt n a (y::b) (by simp only[List.length_cons];omega) ha'.2 hb fun p hp q hq=>hab p (List.mem_cons_of_mem _ hp) q hq⟩
    intro v hv
    rcases(mg_mem _ a (y::b) (Nat.le_refl _) v).1 hv with hv|hv
    · exact ha'.1 v hv
    · rcases List.mem_cons.1 hv with e|hv
      · rw[e];exact hx
      · exact hx.trans (hb'.1 v hv)
  · rw[mg_r g,List.pairwise_cons]
    have hx:Lf f y x:=by unfold Lf;omega
    refine⟨?_,mg_lt n (x::a) b (by simp only[List.length_cons];omega) ha hb'.2 fun p hp q hq=>hab p hp q (List.mem_cons_of_mem _ hq)⟩
    intro v hv
    rcases(mg_mem _ (x::a) b (Nat.le_refl _) v).1 hv with hv|hv
    · rcases List.mem_cons.1 hv with e|hv
      · rw[e];exact hx
      · exact hx.trans (ha'.1 v hv)
    · exact hb'.1 v hv
structure Orr (f:Nat→Int) (p q:Nat) (l:List Nat):Prop where
 lt:l.Pairwise (Lf f)
 all:∀v,v∈l↔p≤v∧v<q
theorem Orr.none {f:Nat→Int} {p q:Nat} (h:q≤p):Orr f p q []:=⟨List.Pairwise.nil,fun v=>⟨fun h=>(by cases h),fun h=>(by omega)⟩⟩
theorem Orr.one {f:Nat→Int} {p:Nat}:Orr f p (p+1) [p]:=⟨List.pairwise_singleton _ _,fun v=>by rw[List.mem_singleton];omega⟩
theorem Orr.merged {f:Nat→Int} {p m q:Nat} {a b:List Nat} (h1:p≤m) (h2:m≤q) (ha:Orr f p m a) (hb:Orr f m q b):Orr f p q (mg f a b):=
 ⟨mg_lt _ a b (Nat.le_refl _) ha.lt hb.lt fun x hx y hy=>by have:=(ha.all x).1 hx;have:=(hb.all y).1 hy;omega,
  fun v=>by rw[mg_mem _ a b (Nat.le_refl _) v,ha.all v,hb.all v];omega⟩
theorem Orr.ord {f:Nat→Int} {n:Nat} {l:List Nat} (h:Orr f 0 n l):Ord f n l:=⟨h.lt,fun v=>by rw[h.all v];omega⟩
theorem Ord.len {f:Nat→Int} {n:Nat} {l:List Nat} (h:Ord f n l):l.length=n:=by
 have nd:l.Nodup:=h.lt.imp fun{a b} (g:Lf f a b)=>by intro e;subst e;exact Lf.irr g
 have hp:l.Perm (List.range n):=(List.perm_ext_iff_of_nodup nd List.nodup_range).2 fun v=>by rw[h.all v,List.mem_range]
 rw[hp.length_eq,List.length_range]
end Go.Proofs.YtbijncndjlmmdaaGreatDoor

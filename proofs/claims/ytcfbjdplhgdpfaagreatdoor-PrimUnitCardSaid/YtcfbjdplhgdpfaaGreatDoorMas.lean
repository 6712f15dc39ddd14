import Derived.Test.YtcfbjdplhgdpfaaGreatDoorMar
import Derived.WalkKit
import Derived.Test.YtcfbjdplhgdpfaaGreatDoorMan
namespace Go.Proofs.YtcfbjdplhgdpfaaGreatDoor
set_option linter.unusedVariables false
set_option linter.unusedSimpArgs false
def quo (l:List Int) (k:Int) (i:Nat):Int:=k/pr (l.drop i)
def plc (l:List Int) (k:Int) (i:Nat):Int:=quo l k (i+1)%l.getD i 0
def plL (l:List Int) (k:Int):List Int:=(List.range l.length).map (plc l k)
theorem plL_length (l:List Int) (k:Int):(plL l k).length=l.length:=by simp[plL]
theorem plL_get {l:List Int} {k:Int} {i:Nat} (h:i<l.length):(plL l k).getD i 0=plc l k i:=by
 rw[List.getD_eq_getElem?_getD,List.getElem?_eq_getElem (by rw[plL_length];exact h)];simp[plL]
theorem quo_last (l:List Int) (k:Int):quo l k l.length=k:=by unfold quo;simp[pr]
theorem quo_step {l:List Int} {k:Int} {i:Nat} (h:i<l.length) (hp:0≤pr (l.drop (i+1))):quo l k (i+1)/l.getD i 0=quo l k i:=by
 unfold quo
 rw[pr_drop h,Int.ediv_ediv_of_nonneg hp,Int.mul_comm]
theorem inL_of {l t:List Int} {n:Nat} (h:∀i,i<n→0≤t.getD i 0∧t.getD i 0<l.getD i 0):inL l t n=true:=by
 induction n with
 |zero=>rfl
 |succ n ih=>
  simp only[inL,Bool.and_eq_true,decide_eq_true_eq]
  exact⟨ih fun i hi=>h i (by omega),h n (by omega)⟩
theorem inL_not {l t:List Int} {n i:Nat} (hi:i<n) (h:t.getD i 0<0∨l.getD i 0≤t.getD i 0):inL l t n=false:=by
 rw[←Bool.not_eq_true]
 intro hh
 have:=inL_at hh hi
 omega
theorem plc_range {l:List Int} (h:AllPos l) (k:Int) {i:Nat} (hi:i<l.length):0≤plc l k i∧plc l k i<l.getD i 0:=
 ⟨Int.emod_nonneg _ (by have:=h.pos i hi;omega),Int.emod_lt_of_pos _ (h.pos i hi)⟩
theorem quo_nonneg {l:List Int} (h:AllPos l) {k:Int} (hk:0≤k) (i:Nat):0≤quo l k i:=Int.ediv_nonneg hk (by have:=h.drop i;omega)
theorem quo_le {l:List Int} (h:AllPos l) {k:Int} (hk:0≤k) (i:Nat):quo l k i≤k:=by
 have:=h.drop i
 exact Int.ediv_le_self _ hk
def sum (l t:List Int):Nat→Int
 | 0=>0
 |i+1=>sum l t i+t.getD i 0*pr (l.drop (i+1))
end Go.Proofs.YtcfbjdplhgdpfaaGreatDoor
namespace Go.Proofs.YtcfbjdplhgdpfaaGreatDoor
set_option linter.unusedVariables false
set_option linter.unusedSimpArgs false
theorem getD_rev {l:List Int} {i:Nat} (h:i<l.length):l.reverse.getD i 0=l.getD (l.length-1-i) 0:=by
 rw[List.getD_eq_getElem?_getD,List.getD_eq_getElem?_getD,List.getElem?_reverse h]
theorem pr_reverse:∀l:List Int,pr l.reverse=pr l
 |[]=>rfl
 |x::r=>by
  rw[List.reverse_cons,pr_append,pr_reverse r]
  simp only[pr]
  rw[Int.mul_one,Int.mul_comm]
theorem AllPos.turned {l:List Int} (h:AllPos l):AllPos l.reverse:=⟨fun j hj=>by
 rw[List.length_reverse]at hj
 rw[getD_rev hj]
 exact h.pos _ (by omega)⟩
def tno (l:List Int) (k:Int):Int:=hor l.reverse (plL l k).reverse l.length
theorem inL_turned {l:List Int} (h:AllPos l) (k:Int):inL l.reverse (plL l k).reverse l.reverse.length=true:=by
 refine inL_of fun i hi=> ?_
 rw[List.length_reverse]at hi
 rw[getD_rev hi,getD_rev (by rw[plL_length];exact hi),plL_length,plL_get (by omega)]
 exact plc_range h k (by omega)
theorem tno_range {l:List Int} (h:AllPos l) (k:Int):0≤tno l k∧tno l k<pr l:=by
 have g:=hor_range (n:=l.reverse.length) (Nat.le_refl _) (inL_turned h k)
 rw[List.take_length,pr_reverse,List.length_reverse]at g
 exact g
end Go.Proofs.YtcfbjdplhgdpfaaGreatDoor
namespace Go.Proofs.YtcfbjdplhgdpfaaGreatDoor
set_option linter.unusedVariables false
set_option linter.unusedSimpArgs false
section
variable {α:Type}
def its (es:List α) (k:Nat):List Nat→List α
 |[]=>[]
 |i::r=>(es.drop (i*k)).take k++its es k r
theorem its_append (es:List α) (k:Nat) (l m:List Nat):its es k (l++m)=its es k l++its es k m:=by
 induction l with
 |nil=>rfl
 |cons i r ih=>show _++its es k (r++m)=_++its es k r++its es k m;rw[ih,List.append_assoc]
theorem it_len {es:List α} {k n i:Nat} (he:es.length=n*k) (hi:i<n):((es.drop (i*k)).take k).length=k:=by
 have h:(i+1)*k≤n*k:=Nat.mul_le_mul_right k hi
 rw[Nat.add_mul]at h
 rw[List.length_take,List.length_drop]
 omega
theorem its_length {es:List α} {k n:Nat} (he:es.length=n*k) {l:List Nat} (hl:∀i∈l,i<n):(its es k l).length=l.length*k:=by
 induction l with
 |nil=>simp[its]
 |cons i r ih=>
  show(_++its es k r).length=_
  rw[List.length_append,ih fun j hj=>hl j (List.mem_cons_of_mem _ hj),it_len he (hl i (List.mem_cons_self ..)),List.length_cons,Nat.add_mul]
  omega
theorem its_run {es:List α} {k:Nat}:∀(m a:Nat),(a+m)*k≤es.length→its es k (List.range' a m)=(es.drop (a*k)).take (m*k)
 | 0,a,h=>by simp[its]
 |m+1,a,h=>by
  have e1:(m+1)*k=k+m*k:=by rw[Nat.add_mul];omega
  have e2:(a+1)*k=a*k+k:=by rw[Nat.add_mul];omega
  have e3:(a+1+m)*k≤es.length:=by rw[show a+1+m=a+(m+1)by omega];exact h
  rw[List.range'_succ]
  show(es.drop (a*k)).take k++its es k (List.range' (a+1) m)=_
  rw[its_run m (a+1) e3,e1,List.take_add,List.drop_drop,e2]
theorem its_all {es:List α} {k n:Nat} (he:es.length=n*k):its es k (List.range n)=es:=by
 rw[List.range_eq_range',its_run n 0 (by rw[Nat.zero_add];omega),Nat.zero_mul,List.drop_zero,←he,List.take_length]
def rvs_ (es:List α) (k n:Nat):List α:=its es k (List.range n).reverse
theorem rvs_length {es:List α} {k n:Nat} (he:es.length=n*k):(rvs_ es k n).length=n*k:=by
 unfold rvs_
 rw[its_length he (fun i hi=>by simpa using hi),List.length_reverse,List.length_range]
end
end Go.Proofs.YtcfbjdplhgdpfaaGreatDoor
namespace Go.Proofs.YtcfbjdplhgdpfaaGreatDoor
set_option linter.unusedVariables false
set_option linter.unusedSimpArgs false
section
variable {α:Type}
def kI (l:List Int):Nat:=(pr l.tail).toNat
def nI (l:List Int):Nat:=(l.getD 0 0).toNat
def Fits (l:List Int) (es:List α):Prop:=MayL l∧(es.length:Int)=pr l
theorem Fits.cut {l:List Int} {es:List α} (h:Fits l es) (hl:l≠[]):es.length=nI l*kI l:=by
 obtain⟨hm,he⟩:=h
 cases l with
 |nil=>exact absurd rfl hl
 |cons x r=>
  have hx:0≤x:=hm.nn 0 (by simp)
  have hr:0≤pr r:=pr_nonneg fun j hj=>hm.nn (j+1) (by simpa using hj)
  have e:pr (x::r)=x*pr r:=rfl
  rw[e]at he
  show _=x.toNat*(pr r).toNat
  have e2:((x.toNat*(pr r).toNat:Nat):Int)=x*pr r:=by
   rw[Int.natCast_mul,Int.toNat_of_nonneg hx,Int.toNat_of_nonneg hr]
  omega
def rvM (l:List Int) (es:List α):List α:=if l=[]∨es=[]then es else rvs_ es (kI l) (nI l)
theorem rvM_length {l:List Int} {es:List α} (h:Fits l es):(rvM l es).length=es.length:=by
 unfold rvM
 split
 · rfl
 · rename_i hc
   have he:=h.cut (fun e=>hc (.inl e))
   rw[rvs_length he,he]
def flM (l:List Int) (es:List α):List α:=(List.range es.length).filterMap fun j:Nat=>es[(tno l.reverse (j:Int)).toNat]?
theorem fl_get {l:List Int} {es:List α} (h:Fits l es) {j:Nat} (hj:j<es.length):(tno l.reverse j).toNat<es.length∧∃x,es[(tno l.reverse j).toNat]?=some x:=by
 have hp:0<pr l:=by have:=h.2;omega
 have ha:=(h.1.pos hp).turned
 obtain⟨h1,h2⟩:=tno_range ha (j:Int)
 rw[pr_reverse,←h.2]at h2
 have h3:(tno l.reverse j).toNat<es.length:=by omega
 exact⟨h3,_,List.getElem?_eq_getElem h3⟩
theorem filterMap_all {β γ:Type} {f:β→Option γ}:∀{l:List β},(∀x∈l,∃y,f x=some y)→(l.filterMap f).length=l.length∧∀i:Nat,(l.filterMap f)[i]?=l[i]?.bind f
 |[],_=>⟨rfl,fun i=>by simp⟩
 |x::r,h=>by
  obtain⟨y,hy⟩:=h x (List.mem_cons_self ..)
  obtain⟨h1,h2⟩:=filterMap_all (l:=r) fun z hz=>h z (List.mem_cons_of_mem _ hz)
  rw[List.filterMap_cons_some hy]
  refine⟨by simp[h1],fun i=> ?_⟩
  cases i with
  |zero=>simp[hy]
  |succ i=>simpa using h2 i
theorem flM_at {l:List Int} {es:List α} (h:Fits l es):(flM l es).length=es.length∧∀j:Nat,j<es.length→(flM l es)[j]?=es[(tno l.reverse j).toNat]?:=by
 obtain⟨h1,h2⟩:=filterMap_all (f:=fun j:Nat=>es[(tno l.reverse j).toNat]?) (l:=List.range es.length) fun x hx=>(fl_get h (List.mem_range.1 hx)).2
 refine⟨by unfold flM;rw[h1];simp,fun j hj=> ?_⟩
 unfold flM
 rw[h2]
 simp[List.getElem?_range hj]
theorem Fits.turned {l:List Int} {es:List α} (h:Fits l es):Fits l.reverse (flM l es):=by
 refine⟨?_,by rw[(flM_at h).1,pr_reverse];exact h.2⟩
 obtain⟨h1,h2,h3,h4⟩:=h.1
 refine⟨by simpa using h1,fun j hj=> ?_,fun j hj=> ?_,by rw[pr_reverse];exact h4⟩
 · rw[List.length_reverse]at hj
   rw[getD_rev hj];exact h2 _ (by omega)
 · rw[List.length_reverse]at hj
   rw[getD_rev hj];exact h3 _ (by omega)
def ctM (l:List Int) (es:List α) (a b:Nat):List α:=(es.drop (a*kI l)).take ((b-a)*kI l)
theorem ctM_length {l:List Int} {es:List α} (h:Fits l es) (hl:l≠[]) {a b:Nat} (hb:b≤nI l):(ctM l es a b).length=(b-a)*kI l:=by
 have he:=h.cut hl
 unfold ctM
 rw[List.length_take,List.length_drop,he,←Nat.sub_mul]
 exact Nat.min_eq_left (Nat.mul_le_mul_right _ (by omega))
end
end Go.Proofs.YtcfbjdplhgdpfaaGreatDoor
namespace Go.Proofs.YtcfbjdplhgdpfaaGreatDoor
set_option linter.unusedVariables false
set_option linter.unusedSimpArgs false
def spL (k:Nat):List (Int×Int)→Option (List Int)×Int
 |[]=>(some [],0)
 |q::r=>match dyI k q.1 q.2 with
  |(some z,_)=>match spL k r with
   |(some l,_)=>(some (z::l),0)
   |(none,e)=>(none,e)
  |(none,e)=>(none,e)
def dyZ (k:Nat) (q:Int×Int):Int:=((dyI k q.1 q.2).1).getD 0
theorem dyI_ok {k:Nat} {x y z e:Int} (h:dyI k x y=(some z,e)):e=0:=by
 rcases @dyI_none k x y with⟨h1,_⟩|⟨h1,_⟩
 · rw[h]at h1;exact h1
 · rw[h]at h1;cases h1
theorem dyI_no {k:Nat} {x y e:Int} (h:dyI k x y=(none,e)):e=1∨e=5∨e=8:=by
 rcases @dyI_none k x y with⟨_,h1⟩|⟨_,h1⟩
 · rw[h]at h1;cases h1
 · rw[h]at h1;exact h1
theorem spL_ok {k:Nat} {ps:List (Int×Int)} {l:List Int} {e:Int} (h:spL k ps=(some l,e)):e=0∧l=ps.map (dyZ k)∧∀q∈ps,dyI k q.1 q.2=(some (dyZ k q),0):=by
 induction ps generalizing l e with
 |nil=>cases h;exact⟨rfl,rfl,fun q hq=>by cases hq⟩
 |cons q r ih=>
  obtain⟨o,c,hd⟩:∃o c,dyI k q.1 q.2=(o,c):=⟨_,_,rfl⟩
  obtain⟨o',c',hs⟩:∃o c,spL k r=(o,c):=⟨_,_,rfl⟩
  unfold spL at h
  rw[hd]at h
  cases o with
  |none=>simp at h
  |some z=>
   simp only[hs]at h
   cases o' with
   |none=>simp at h
   |some l'=>
    simp only[Prod.mk.injEq,Option.some.injEq]at h
    obtain⟨rfl,rfl⟩:=h
    obtain⟨_,h2,h3⟩:=ih hs
    have hz:dyZ k q=z:=by unfold dyZ;rw[hd];rfl
    have hc:=dyI_ok hd
    subst hc
    refine⟨rfl,by rw[List.map_cons,hz,h2],?_⟩
    intro q' hq'
    rcases List.mem_cons.1 hq' with rfl|h
    · rw[hz];exact hd
    · exact h3 q' h
theorem spL_no {k:Nat} {ps:List (Int×Int)} {e:Int} (h:spL k ps=(none,e)):e=1∨e=5∨e=8:=by
 induction ps generalizing e with
 |nil=>cases h
 |cons q r ih=>
  obtain⟨o,c,hd⟩:∃o c,dyI k q.1 q.2=(o,c):=⟨_,_,rfl⟩
  obtain⟨o',c',hs⟩:∃o c,spL k r=(o,c):=⟨_,_,rfl⟩
  unfold spL at h
  rw[hd]at h
  cases o with
  |none=>
   simp only[Prod.mk.injEq,true_and]at h
   subst h
   exact dyI_no hd
  |some z=>
   simp only[hs]at h
   cases o' with
   |none=>
    simp only[Prod.mk.injEq,true_and]at h
    subst h
    exact ih hs
   |some l'=>simp at h
theorem spL_len {k:Nat} {ps:List (Int×Int)} {l:List Int} {e:Int} (h:spL k ps=(some l,e)):l.length=ps.length:=by
 rw[(spL_ok h).2.1,List.length_map]
theorem spL_bd {k:Nat} {ps:List (Int×Int)} {l:List Int} {e:Int} (h:spL k ps=(some l,e)) (hb:∀q∈ps,q.1.natAbs<lim∧q.2.natAbs<lim):∀z∈l,z.natAbs<lim:=by
 obtain⟨_,rfl,h3⟩:=spL_ok h
 intro z hz
 obtain⟨q,hq,rfl⟩:=List.mem_map.1 hz
 exact dyI_bd (hb q hq).1 (hb q hq).2 _ (congrArg Prod.fst (h3 q hq))
theorem dyI_turn {k:Nat} (hk:k=0∨k=2∨k=5∨k=6∨k=9∨k=10) (x y:Int):dyI k x y=dyI k y x:=by
 rcases hk with h|h|h|h|h|h<;>subst h<;>simp only[dyI]
 · rw[Int.add_comm]
 · rw[Int.mul_comm]
 · congr 2;split<;>split<;>omega
 · congr 2;split<;>split<;>omega
 · congr 3;exact decide_eq_decide.2 ⟨fun h=>h.symm,fun h=>h.symm⟩
 · congr 4;exact decide_eq_decide.2 ⟨fun h=>h.symm,fun h=>h.symm⟩
theorem spL_turn {k:Nat} (hk:k=0∨k=2∨k=5∨k=6∨k=9∨k=10) (ps:List (Int×Int)):spL k (ps.map Prod.swap)=spL k ps:=by
 induction ps with
 |nil=>rfl
 |cons q r ih=>
  rw[List.map_cons]
  unfold spL
  rw[ih,show dyI k q.swap.1 q.swap.2=dyI k q.1 q.2 from dyI_turn hk _ _]
def mnZ (k:Nat) (x:Int):Int:=((mnI k x).1).getD 0
theorem mnI_ok {k:Nat} (hk:k<3) (x:Int):mnI k x=(some (mnZ k x),0):=by
 rcases(by omega:k=0∨k=1∨k=2)with h|h|h<;>subst h<;>rfl
end Go.Proofs.YtcfbjdplhgdpfaaGreatDoor
namespace Go.Proofs.YtcfbjdplhgdpfaaGreatDoor
set_option linter.unusedVariables false
set_option linter.unusedSimpArgs false
def prs (u v:Bool) (xs ys:List Int) (n:Nat):List (Int×Int):=(List.range n).map fun i=>(xs.getD (if u then 0 else i) 0,ys.getD (if v then 0 else i) 0)
theorem prs_length {u v:Bool} {xs ys:List Int} {n:Nat}:(prs u v xs ys n).length=n:=by simp[prs]
theorem prs_get {u v:Bool} {xs ys:List Int} {n i:Nat} (h:i<(prs u v xs ys n).length):(prs u v xs ys n)[i]=(xs.getD (if u then 0 else i) 0,ys.getD (if v then 0 else i) 0):=by
 simp[prs]
theorem prs_swap {u v:Bool} {xs ys:List Int} {n:Nat}:(prs u v xs ys n).map Prod.swap=prs v u ys xs n:=by
 simp[prs,Function.comp_def]
theorem prs_bd {u v:Bool} {xs ys:List Int} {n:Nat} (hx:∀x∈xs,x.natAbs<lim) (hy:∀y∈ys,y.natAbs<lim):∀q∈prs u v xs ys n,q.1.natAbs<lim∧q.2.natAbs<lim:=by
 have g:∀(l:List Int) (j:Nat),(∀x∈l,x.natAbs<lim)→(l.getD j 0).natAbs<lim:=by
  intro l j hl
  rw[List.getD_eq_getElem?_getD]
  cases e:l[j]? with
  |none=>simp;exact lim_pos
  |some x=>exact hl x (List.mem_of_getElem? e)
 intro q hq
 obtain⟨i,_,rfl⟩:=List.mem_map.1 hq
 exact⟨g _ _ hx,g _ _ hy⟩
theorem nums_of {es:List ByteArray} (h:∀s∈es,mayL s.data.toList=true):∃xs:List Int,es=xs.map S∧∀x∈xs,x.natAbs<lim:=by
 induction es with
 |nil=>exact⟨[],rfl,fun x hx=>by cases hx⟩
 |cons s r ih=>
  obtain⟨xs,h1,h2⟩:=ih fun t ht=>h t (List.mem_cons_of_mem _ ht)
  obtain⟨x,hx,hl⟩:=mayL_is (h s (List.mem_cons_self ..))
  have e:s=S x:=by
   obtain⟨⟨d⟩⟩:=s
   show _=(⟨(Lib.itoa x).toArray⟩:ByteArray)
   have:d=Lib.itoa x:=hx
   rw[this]
  refine⟨x::xs,by rw[h1,e];rfl,?_⟩
  intro y hy
  rcases List.mem_cons.1 hy with rfl|hy
  · exact hl
  · exact h2 y hy
end Go.Proofs.YtcfbjdplhgdpfaaGreatDoor
namespace Go.Proofs.YtcfbjdplhgdpfaaGreatDoor
set_option linter.unusedVariables false
set_option linter.unusedSimpArgs false
def meE (l k:List Int):Int:=if l=k∨k=[]∨l=[]then 0 else 4
def meV (l k:List Int):List Int:=if l=k∨k=[]then l else if l=[]then k else[]
def prD:List Int→Int
 |[]=>1
 |x::r=>x*prD r
abbrev Ar:=List Int×List Int
def nx (l:List Int):Bool:=decide (l=[])
def dyA (k:Nat):Option Ar→Option Ar→Option Ar×Int
 |some (l,xs),some (m,ys)=>if¬k<11 then(none,1)else if meE l m≠0 then(none,meE l m)else
  match spL k (prs (nx l) (nx m) xs ys (prD (meV l m)).toNat)with
  |(some zs,_)=>(some (meV l m,zs),0)
  |(none,e)=>(none,e)
 |_,_=>(none,1)
def mnA (k:Nat):Option Ar→Option Ar×Int
 |some (l,xs)=>if¬k<3 then(none,1)else(some (l,xs.map (mnZ k)),0)
 |none=>(none,1)
theorem meE_cases (l k:List Int):meE l k=0∨meE l k=4:=by unfold meE;split<;>simp
theorem meE_turn (l k:List Int):meE l k=meE k l:=by
 unfold meE
 by_cases h:l=k
 · subst h;rfl
 · have h':¬k=l:=fun e=>h e.symm
   simp only[h,h',false_or]
   by_cases h1:k=[]<;>by_cases h2:l=[]<;>simp[h1,h2]
theorem meV_turn {l k:List Int} (h:meE l k=0):meV l k=meV k l:=by
 unfold meE at h
 unfold meV
 by_cases h0:l=k
 · subst h0;rfl
 · have h':¬k=l:=fun e=>h0 e.symm
   simp only[h0,h',false_or]at h ⊢
   by_cases h1:k=[]<;>by_cases h2:l=[]<;>simp_all
theorem dyA_two {k:Nat} (hk:k<11) {l m xs ys:List Int} (h:meE l m=0):dyA k (some (l,xs)) (some (m,ys))=(match spL k (prs (nx l) (nx m) xs ys (prD (meV l m)).toNat)with
 |(some zs,_)=>(some (meV l m,zs),0)
 |(none,e)=>(none,e)):=by
 simp only[dyA]
 rw[if_neg (by omega),if_neg (by simp[h])]
theorem dyA_shape {k:Nat} (hk:k<11) {l m xs ys:List Int} (h:meE l m≠0):dyA k (some (l,xs)) (some (m,ys))=(none,4):=by
 have h4:meE l m=4:=by rcases meE_cases l m with g|g;exact absurd g h;exact g
 simp only[dyA]
 rw[if_neg (by omega),if_pos h,h4]
theorem dyA_none {k:Nat} (hk:¬k<11) (p q:Option Ar):dyA k p q=(none,1):=by
 cases p<;>cases q<;>simp only[dyA]
 rw[if_pos hk]
theorem dyA_arg {k:Nat} {p q:Option Ar} (h:(p.isSome&&q.isSome)=false):dyA k p q=(none,1):=by
 cases p<;>cases q<;>first|rfl|exact absurd h (by simp)
theorem dyA_end (k:Nat) (p q:Option Ar):((dyA k p q).2=0∧(dyA k p q).1.isSome=true)∨((dyA k p q).1=none∧((dyA k p q).2=1∨(dyA k p q).2=4∨(dyA k p q).2=5∨(dyA k p q).2=8)):=by
 by_cases hk:k<11
 · cases p with
   |none=>exact .inr ⟨rfl,.inl rfl⟩
   |some a=>
   cases q with
   |none=>exact .inr ⟨rfl,.inl rfl⟩
   |some b=>
   obtain⟨l,xs⟩:=a
   obtain⟨m,ys⟩:=b
   by_cases hm:meE l m=0
   · rw[dyA_two hk hm]
     generalize hs:spL k _=r
     obtain⟨o,e⟩:=r
     cases o with
     |none=>rcases spL_no hs with h|h|h<;>subst h<;>simp
     |some zs=>exact .inl ⟨rfl,rfl⟩
   · rw[dyA_shape hk hm];simp
 · rw[dyA_none hk];simp
theorem dyA_turn {k:Nat} (hk:k=0∨k=2∨k=5∨k=6∨k=9∨k=10) (p q:Option Ar):dyA k p q=dyA k q p:=by
 have hk':k<11:=by omega
 cases p with
 |none=>cases q<;>rfl
 |some a=>
 cases q with
 |none=>rfl
 |some b=>
 obtain⟨l,xs⟩:=a
 obtain⟨m,ys⟩:=b
 by_cases hm:meE l m=0
 · rw[dyA_two hk' hm,dyA_two hk' (by rw[←meE_turn];exact hm),←meV_turn hm,←prs_swap,spL_turn hk]
 · rw[dyA_shape hk' hm,dyA_shape hk' (by rw[←meE_turn];exact hm)]
end Go.Proofs.YtcfbjdplhgdpfaaGreatDoor
namespace Go.Proofs.YtcfbjdplhgdpfaaGreatDoor
set_option linter.unusedVariables false
set_option linter.unusedSimpArgs false
def nearM (x:Int):Bool:=decide (-1099511627776≤x)&&decide (x≤1099511627776)
theorem nearM_yes {x:Int}:nearM x=true↔ -1099511627776≤x∧x≤1099511627776:=by simp[nearM]
def inM (v:Ar):Int×Int:=if v.1≠[]∨v.2.length≠1 then(0,3)else if nearM (v.2.getD 0 0)then(v.2.getD 0 0,0)else(0,5)
def upM (n:Nat):List Int:=(List.range n).map fun i:Nat=>(i:Int)
def ioM:Option Ar→Option Ar×Int
 |none=>(none,1)
 |some v=>if(inM v).2≠0 then(none,(inM v).2)else if(inM v).1<0 then(none,5)else if 4096<(inM v).1 then(none,8)else(some ([(inM v).1],upM (inM v).1.toNat),0)
def maM (l:List Int):Int:=if l.length=0 then 1 else l.getD 0 0
def taM:Option Ar→Option Ar×Int
 |none=>(none,1)
 |some v=>(some ([],[maM v.1]),0)
def shM:Option Ar→Option Ar×Int
 |none=>(none,1)
 |some v=>(some ([(v.1.length:Int)],v.1),0)
def raM:Option Ar→Option Ar×Int
 |none=>(none,1)
 |some v=>(some ([(v.2.length:Int)],v.2),0)
def reM:Option Ar→Option Ar×Int
 |none=>(none,1)
 |some v=>(some (v.1,rvM v.1 v.2),0)
def fiM:Option Ar→Option Ar×Int
 |none=>(none,1)
 |some v=>(some (v.1.reverse,flM v.1 v.2),0)
def cyM (es:List Int) (n:Nat):List Int:=(List.range n).map fun i:Nat=>es.getD (i%es.length) 0
def rsM:Option Ar→Option Ar→Option Ar×Int
 |some v,some w=>if 1<v.1.length then(none,3)else if v.2.all nearM=false then(none,5)else if szE v.2≠0 then(none,szE v.2)else if pr v.2≠0∧w.2=[]then(none,5)else(some (v.2,cyM w.2 (pr v.2).toNat),0)
 |_,_=>(none,1)
def cuM (w:Ar) (a b:Nat):Ar:=(((b-a:Nat):Int)::w.1.tail,ctM w.1 w.2 a b)
def tkM:Option Ar→Option Ar→Option Ar×Int
 |some v,some w=>if(inM v).2≠0 then(none,(inM v).2)else if w.1=[]then(none,3)else
  if w.1.getD 0 0<(inM v).1∨w.1.getD 0 0< -(inM v).1 then(none,6)else
  if(inM v).1<0 then(some (cuM w (nI w.1-(-(inM v).1).toNat) (nI w.1)),0)else(some (cuM w 0 (inM v).1.toNat),0)
 |_,_=>(none,1)
def drM:Option Ar→Option Ar→Option Ar×Int
 |some v,some w=>if(inM v).2≠0 then(none,(inM v).2)else if w.1=[]then(none,3)else
  if(inM v).1<0 then(some (cuM w 0 (nI w.1-(-(inM v).1).toNat)),0)else(some (cuM w (min (inM v).1.toNat (nI w.1)) (nI w.1)),0)
 |_,_=>(none,1)
def vcM (v:Ar):Ar:=if v.1=[]then([1],v.2)else v
def jnM:Option Ar→Option Ar→Option Ar×Int
 |some v,some w=>if(vcM v).1.length≠(vcM w).1.length then(none,3)else if(vcM v).1.tail≠(vcM w).1.tail then(none,4)else
  if szE (((vcM v).1.getD 0 0+(vcM w).1.getD 0 0)::(vcM v).1.tail)≠0 then(none,szE (((vcM v).1.getD 0 0+(vcM w).1.getD 0 0)::(vcM v).1.tail))else
  (some (((vcM v).1.getD 0 0+(vcM w).1.getD 0 0)::(vcM v).1.tail,v.2++w.2),0)
 |_,_=>(none,1)
theorem inM_num {x:Int} (h:nearM x=true):inM ([],[x])=(x,0):=by
 unfold inM
 rw[if_neg (by simp)]
 show(if nearM x=true then(x,0)else(0,5))=_
 rw[if_pos h]
theorem nI_head {l:List Int} (hl:l≠[]) (h:MayL l):((nI l:Nat):Int)=l.getD 0 0:=by
 have h0:=h.nn 0 (by cases l with|nil=>exact absurd rfl hl|cons x r=>simp)
 unfold nI
 omega
theorem head_tail {l:List Int} (hl:l≠[]):l.getD 0 0::l.tail=l:=by
 cases l with
 |nil=>exact absurd rfl hl
 |cons x r=>rfl
theorem cuM_fits {w:Ar} (h:Fits w.1 w.2) (hl:w.1≠[]) {a b:Nat} (hab:a≤b) (hb:b≤nI w.1):Fits (cuM w a b).1 (cuM w a b).2:=by
 obtain⟨l,es⟩:=w
 simp only at h hl hb
 have hh:=nI_head hl h.1
 obtain⟨x,r,rfl⟩:∃x r,l=x::r:=by
  cases l with
  |nil=>exact absurd rfl hl
  |cons x r=>exact⟨x,r,rfl⟩
 have hx:((nI (x::r):Nat):Int)=x:=hh
 have hr:0≤pr r:=pr_nonneg fun j hj=>h.1.nn (j+1) (by simpa using hj)
 have hle:(((b-a:Nat):Int))*pr r≤x*pr r:=Int.mul_le_mul_of_nonneg_right (by omega) hr
 have hp:pr (x::r)=x*pr r:=rfl
 refine⟨⟨h.1.len,fun j hj=> ?_,fun j hj=> ?_,?_⟩,?_⟩
 · cases j with
   |zero=>show(0:Int)≤((b-a:Nat):Int);omega
   |succ j=>exact h.1.nn (j+1) (by simpa[cuM]using hj)
 · have h1:=h.1.le 0 (by simp)
   cases j with
   |zero=>
    show(((b-a:Nat):Int))≤1099511627776
    have:x≤1099511627776:=h1
    omega
   |succ j=>exact h.1.le (j+1) (by simpa[cuM]using hj)
 · show(((b-a:Nat):Int))*pr r≤4096
   have:=h.1.pr
   omega
 · show((ctM (x::r) es a b).length:Int)=(((b-a:Nat):Int))*pr r
   rw[ctM_length h hl hb]
   show(((b-a)*(pr r).toNat:Nat):Int)=_
   rw[Int.natCast_mul,Int.toNat_of_nonneg hr]
theorem vcM_head (v:Ar):(vcM v).1.getD 0 0=maM v.1:=by
 obtain⟨l,es⟩:=v
 unfold vcM maM
 by_cases h:l=[]
 · subst h;rfl
 · rw[if_neg h,if_neg (fun e=>h (List.length_eq_zero_iff.1 e))]
end Go.Proofs.YtcfbjdplhgdpfaaGreatDoor

import Derived.WalkKit
import Derived.Test.YtcfbjdplhgdpfaaGreatDoorMas
namespace Go.Proofs.YtcfbjdplhgdpfaaGreatDoor
set_option linter.unusedVariables false
set_option linter.unusedSimpArgs false
def Lf (f:Nat→Int) (x y:Nat):Prop:=f x<f y∨(f x=f y∧x<y)
theorem Lf.irr {f:Nat→Int} {x:Nat}:¬Lf f x x:=by unfold Lf;omega
theorem Lf.trans {f:Nat→Int} {x y z:Nat} (h:Lf f x y) (g:Lf f y z):Lf f x z:=by unfold Lf at*;omega
theorem Lf.tri {f:Nat→Int} {x y:Nat} (h:¬Lf f x y):x=y∨Lf f y x:=by unfold Lf at*;omega
theorem Lf.asym {f:Nat→Int} {x y:Nat} (h:Lf f x y):¬Lf f y x:=by unfold Lf at*;omega
theorem Lf.low {f:Nat→Int} {x y z:Nat} (h:¬Lf f y x) (g:¬Lf f z y):¬Lf f z x:=by unfold Lf at*;omega
def swp (a:Nat→Nat) (i j:Nat):Nat→Nat:=fun k=>if k=i then a j else if k=j then a i else a k
theorem swp_l {a:Nat→Nat} {i j:Nat}:swp a i j i=a j:=if_pos rfl
theorem swp_r {a:Nat→Nat} {i j:Nat}:swp a i j j=a i:=by
 unfold swp
 by_cases h:j=i
 · rw[if_pos h,h]
 · rw[if_neg h,if_pos rfl]
theorem swp_o {a:Nat→Nat} {i j k:Nat} (h1:k≠i) (h2:k≠j):swp a i j k=a k:=by unfold swp;rw[if_neg h1,if_neg h2]
def Con (a:Nat→Nat) (n:Nat) (v:Nat):Prop:=∃k,k<n∧a k=v
def Inj (a:Nat→Nat) (n:Nat):Prop:=∀i j,i<n→j<n→a i=a j→i=j
theorem Con.swp {a:Nat→Nat} {n i j v:Nat} (hi:i<n) (hj:j<n):Con (swp a i j) n v↔Con a n v:=by
 constructor
 · rintro⟨k,hk,e⟩
   by_cases h1:k=i
   · subst h1;rw[swp_l]at e;exact⟨j,hj,e⟩
   · by_cases h2:k=j
     · subst h2;rw[swp_r]at e;exact⟨i,hi,e⟩
     · rw[swp_o h1 h2]at e;exact⟨k,hk,e⟩
 · rintro⟨k,hk,e⟩
   by_cases h1:k=i
   · subst h1;exact⟨j,hj,by rw[swp_r];exact e⟩
   · by_cases h2:k=j
     · subst h2;exact⟨i,hi,by rw[swp_l];exact e⟩
     · exact⟨k,hk,by rw[swp_o h1 h2];exact e⟩
theorem Inj.swp {a:Nat→Nat} {n i j:Nat} (h:Inj a n) (hi:i<n) (hj:j<n):Inj (swp a i j) n:=by
 intro x y hx hy e
 have g:∀z,z<n→∃q,q<n∧Go.Proofs.YtcfbjdplhgdpfaaGreatDoor.swp a i j z=a q∧((z=i∧q=j)∨(z≠i∧z=j∧q=i)∨(z≠i∧z≠j∧q=z)):=by
  intro z hz
  by_cases h1:z=i
  · subst h1;exact⟨j,hj,swp_l,.inl ⟨rfl,rfl⟩⟩
  · by_cases h2:z=j
    · subst h2;exact⟨i,hi,swp_r,.inr (.inl ⟨h1,rfl,rfl⟩)⟩
    · exact⟨z,hz,swp_o h1 h2,.inr (.inr ⟨h1,h2,rfl⟩)⟩
 obtain⟨p,hp,e1,c1⟩:=g x hx
 obtain⟨q,hq,e2,c2⟩:=g y hy
 rw[e1,e2]at e
 have:=h _ _ hp hq e
 omega
def HP (f:Nat→Int) (a:Nat→Nat) (n i0:Nat):Prop:=∀m,m<n→0<m→i0≤(m-1)/2→¬Lf f (a m) (a ((m-1)/2))
structure Dn (f:Nat→Int) (a:Nat→Nat) (n i0 i:Nat):Prop where
 le:i0≤i
 at_:∀m,m<n→0<m→i0≤(m-1)/2→(m-1)/2≠i→¬Lf f (a m) (a ((m-1)/2))
 up:i0<i→i0≤(i-1)/2∧∀m,m<n→0<m→(m-1)/2=i→¬Lf f (a m) (a ((i-1)/2))
theorem Dn.step {f:Nat→Int} {a:Nat→Nat} {n i0 i j:Nat} (h:Dn f a n i0 i) (hj:j=2*i+1∨j=2*i+2) (hn:j<n) (hl:Lf f (a j) (a i)) (hs:∀m,m<n→0<m→(m-1)/2=i→¬Lf f (a m) (a j)):Dn f (swp a i j) n i0 j:=by
 have hle:=h.le
 have hij:i≠j:=by omega
 have hp:(j-1)/2=i:=by omega
 refine⟨by omega,?_,?_⟩
 · intro m h1 h2 h3 h4
   by_cases e1:m=j
   · subst e1
     rw[hp,swp_r,swp_l]
     exact hl.asym
   · by_cases e2:(m-1)/2=i
     · rw[e2,swp_o (by omega) e1,swp_l]
       exact hs m h1 h2 e2
     · by_cases e3:m=i
       · subst e3
         obtain⟨_,g2⟩:=h.up (by omega)
         rw[swp_l,swp_o (by omega) (by omega)]
         exact g2 j hn (by omega) hp
       · rw[swp_o e3 e1,swp_o e2 h4]
         exact h.at_ m h1 h2 h3 e2
 · intro _
   rw[hp]
   refine⟨by omega,?_⟩
   intro m h1 h2 h3
   rw[swp_l,swp_o (by omega) (by omega)]
   have g:=h.at_ m h1 h2 (by omega) (by omega)
   rw[h3]at g
   exact g
theorem Dn.ends {f:Nat→Int} {a:Nat→Nat} {n i0 i:Nat} (h:Dn f a n i0 i) (he:∀m,m<n→0<m→(m-1)/2=i→¬Lf f (a m) (a i)):HP f a n i0:=by
 intro m h1 h2 h3
 by_cases e:(m-1)/2=i
 · rw[e];exact he m h1 h2 e
 · exact h.at_ m h1 h2 h3 e
structure Un (f:Nat→Int) (a:Nat→Nat) (n j:Nat):Prop where
 at_:∀m,m<n→0<m→m≠j→¬Lf f (a m) (a ((m-1)/2))
 up:∀m,m<n→0<m→0<j→(m-1)/2=j→¬Lf f (a m) (a ((j-1)/2))
theorem Un.step {f:Nat→Int} {a:Nat→Nat} {n j:Nat} (h:Un f a n j) (hj:0<j) (hn:j<n) (hl:Lf f (a j) (a ((j-1)/2))):Un f (swp a ((j-1)/2) j) n ((j-1)/2):=by
 obtain⟨i,hi⟩:∃i,i=(j-1)/2:=⟨_,rfl⟩
 rw[←hi]at hl ⊢
 have hij:i≠j:=by omega
 refine⟨?_,?_⟩
 · intro m h1 h2 h3
   by_cases e1:m=j
   · subst e1
     rw[←hi,swp_r,swp_l]
     exact hl.asym
   · by_cases e2:(m-1)/2=i
     · rw[e2,swp_o h3 e1,swp_l]
       have g:=h.at_ m h1 h2 e1
       rw[e2]at g
       exact Lf.low hl.asym g
     · by_cases e3:(m-1)/2=j
       · rw[e3,swp_r,swp_o h3 e1]
         have g:=h.up m h1 h2 hj e3
         rw[←hi]at g
         exact g
       · rw[swp_o h3 e1,swp_o e2 e3]
         exact h.at_ m h1 h2 e1
 · intro m h1 h2 h3 h4
   have gi:=h.at_ i (by omega) h3 hij
   by_cases e1:m=j
   · subst e1
     rw[swp_r,swp_o (by omega) (by omega)]
     exact gi
   · rw[swp_o (by omega) e1,swp_o (by omega) (by omega)]
     have g:=h.at_ m h1 h2 e1
     rw[h4]at g
     exact Lf.low gi g
theorem Un.ends {f:Nat→Int} {a:Nat→Nat} {n j:Nat} (h:Un f a n j) (he:0<j→¬Lf f (a j) (a ((j-1)/2))):HP f a n 0:=by
 intro m h1 h2 _
 by_cases e:m=j
 · subst e;exact he h2
 · exact h.at_ m h1 h2 e
theorem Un.start {f:Nat→Int} {a b:Nat→Nat} {n:Nat} (h:HP f a n 0) (hb:∀k,k<n→b k=a k):Un f b (n+1) n:=by
 refine⟨?_,fun m h1 h2 h3 h4=>by omega⟩
 intro m h1 h2 h3
 rw[hb m (by omega),hb _ (by omega)]
 exact h m (by omega) h2 (Nat.zero_le _)
theorem HP.least {f:Nat→Int} {a:Nat→Nat} {n:Nat} (h:HP f a n 0):∀m,m<n→¬Lf f (a m) (a 0):=by
 intro m
 induction m using Nat.strongRecOn with
 |ind m ih=>
  intro hm
  by_cases h0:m=0
  · subst h0;exact Lf.irr
  · exact Lf.low (ih ((m-1)/2) (by omega) (by omega)) (h m hm (by omega) (Nat.zero_le _))
theorem Dn.popped {f:Nat→Int} {a:Nat→Nat} {n:Nat} (h:HP f a (n+1) 0):Dn f (swp a 0 n) n 0 0:=by
 refine⟨Nat.le_refl _,?_,fun h=>by omega⟩
 intro m h1 h2 h3 h4
 rw[swp_o (by omega) (by omega),swp_o (by omega) (by omega)]
 exact h m (by omega) h2 h3
theorem lf_mem {f:Nat→Int} {l m:List Nat} (hl:l.Pairwise (Lf f)) (hm:m.Pairwise (Lf f)) (h:∀v,v∈l↔v∈m):l=m:=by
 induction l generalizing m with
 |nil=>
  cases m with
  |nil=>rfl
  |cons x r=>exact absurd ((h x).2 (List.mem_cons_self ..)) (by simp)
 |cons x r ih=>
  cases m with
  |nil=>exact absurd ((h x).1 (List.mem_cons_self ..)) (by simp)
  |cons y s=>
   rw[List.pairwise_cons]at hl hm
   have e:x=y:=by
    rcases List.mem_cons.1 ((h x).1 (List.mem_cons_self ..))with e|e
    · exact e
    · rcases List.mem_cons.1 ((h y).2 (List.mem_cons_self ..))with e2|e2
      · exact e2.symm
      · exact absurd (hl.1 y e2) (hm.1 x e).asym
   subst e
   congr 1
   refine ih hl.2 hm.2 fun v=> ?_
   constructor
   · intro hv
     rcases List.mem_cons.1 ((h v).1 (List.mem_cons_of_mem _ hv))with e|e
     · subst e;exact absurd (hl.1 v hv) Lf.irr
     · exact e
   · intro hv
     rcases List.mem_cons.1 ((h v).2 (List.mem_cons_of_mem _ hv))with e|e
     · subst e;exact absurd (hm.1 v hv) Lf.irr
     · exact e
structure Ord (f:Nat→Int) (n:Nat) (l:List Nat):Prop where
 lt:l.Pairwise (Lf f)
 all:∀v,v∈l↔v<n
theorem Ord.one {f:Nat→Int} {n:Nat} {l m:List Nat} (h:Ord f n l) (g:Ord f n m):l=m:=lf_mem h.lt g.lt fun v=>(h.all v).trans (g.all v).symm
structure Out (f:Nat→Int) (N:Nat) (out:List Nat) (a:Nat→Nat) (n:Nat):Prop where
 hp:HP f a n 0
 inj:Inj a n
 lt:out.Pairwise (Lf f)
 ahead:∀v,v∈out→∀k,k<n→Lf f v (a k)
 all:∀v,v<N↔v∈out∨Con a n v
theorem Out.ends {f:Nat→Int} {N:Nat} {out:List Nat} {a:Nat→Nat} (h:Out f N out a 0):Ord f N out:=
 ⟨h.lt,fun v=>((h.all v).trans ⟨fun h=>h.elim id fun⟨k,hk,_⟩=>by omega,.inl⟩).symm⟩
theorem Out.pop {f:Nat→Int} {N:Nat} {out:List Nat} {a b:Nat→Nat} {n:Nat} (h:Out f N out a (n+1)) (hb:HP f b n 0) (hi:Inj b n) (hc:∀v,Con b n v↔Con (swp a 0 n) n v):Out f N (out++[a 0]) b n:=by
 have hs:Inj (swp a 0 n) (n+1):=h.inj.swp (by omega) (by omega)
 have hcon:∀k,k<n→∃j,0<j∧j<n+1∧b k=a j:=by
  intro k hk
  obtain⟨j,hj,e⟩:=(hc (b k)).1 ⟨k,hk,rfl⟩
  by_cases h0:j=0
  · subst h0
    rw[swp_l]at e
    exact⟨n,by omega,by omega,e.symm⟩
  · rw[swp_o h0 (by omega)]at e
    exact⟨j,by omega,by omega,e.symm⟩
 refine⟨hb,hi,?_,?_,?_⟩
 · rw[List.pairwise_append]
   refine⟨h.lt,List.pairwise_singleton _ _,?_⟩
   intro v hv w hw
   rw[List.mem_singleton]at hw
   subst hw
   exact h.ahead v hv 0 (by omega)
 · intro v hv k hk
   obtain⟨j,h0,hj,e⟩:=hcon k hk
   rw[e]
   rcases List.mem_append.1 hv with hv|hv
   · exact h.ahead v hv j hj
   · rw[List.mem_singleton]at hv
     subst hv
     rcases Lf.tri (h.hp.least j hj)with g|g
     · have:=h.inj _ _ hj (by omega) g;omega
     · exact g
 · intro v
   rw[h.all v,hc v]
   constructor
   · rintro(hv|⟨k,hk,e⟩)
     · exact .inl (List.mem_append_left _ hv)
     · by_cases h0:k=0
       · subst h0;exact .inl (List.mem_append_right _ (by rw[List.mem_singleton];exact e.symm))
       · by_cases hn:k=n
         · subst hn
           exact .inr ⟨0,by omega,by rw[swp_l];exact e⟩
         · exact .inr ⟨k,by omega,by rw[swp_o h0 hn];exact e⟩
   · rintro(hv|⟨k,hk,e⟩)
     · rcases List.mem_append.1 hv with hv|hv
       · exact .inl hv
       · rw[List.mem_singleton]at hv
         exact .inr ⟨0,by omega,hv.symm⟩
     · by_cases h0:k=0
       · subst h0
         rw[swp_l]at e
         exact .inr ⟨n,by omega,e⟩
       · rw[swp_o h0 (by omega)]at e
         exact .inr ⟨k,by omega,e⟩
end Go.Proofs.YtcfbjdplhgdpfaaGreatDoor
namespace Go.Proofs.YtcfbjdplhgdpfaaGreatDoor
set_option linter.unusedVariables false
set_option linter.unusedSimpArgs false
def mg (f:Nat→Int):List Nat→List Nat→List Nat
 |[],b=>b
 |x::a,[]=>x::a
 |x::a,y::b=>if f x≤f y then x::mg f a (y::b)else y::mg f (x::a) b
termination_by a b=>a.length+b.length
theorem mg_nil (f:Nat→Int) (b:List Nat):mg f [] b=b:=by unfold mg;rfl
theorem mg_nil' (f:Nat→Int) (a:List Nat):mg f a []=a:=by
 cases a with
 |nil=>exact mg_nil f []
 |cons x a=>unfold mg;rfl
theorem mg_l {f:Nat→Int} {x y:Nat} {a b:List Nat} (h:f x≤f y):mg f (x::a) (y::b)=x::mg f a (y::b):=by
 rw[mg,if_pos h]
theorem mg_r {f:Nat→Int} {x y:Nat} {a b:List Nat} (h:¬f x≤f y):mg f (x::a) (y::b)=y::mg f (x::a) b:=by
 rw[mg,if_neg h]
theorem mg_mem {f:Nat→Int}:∀(n:Nat) (a b:List Nat),a.length+b.length≤n→∀v,v∈mg f a b↔v∈a∨v∈b
 |n,[],b,_,v=>by rw[mg_nil];simp
 |n,x::a,[],_,v=>by rw[mg_nil'];simp
 | 0,x::a,y::b,h,v=>by simp at h
 |n+1,x::a,y::b,h,v=>by
  simp only[List.length_cons]at h
  by_cases g:f x≤f y
  · rw[mg_l g]
    have e:=mg_mem (f:=f) n a (y::b) (by simp only[List.length_cons];omega) v
    simp only[List.mem_cons]at e ⊢
    rw[e,or_assoc]
  · rw[mg_r g,List.mem_cons,mg_mem n (x::a) b (by simp only[List.length_cons];omega) v,List.mem_cons (l:=b)]
    constructor
    · rintro(h|h|h)
      · exact .inr (.inl h)
      · exact .inl h
      · exact .inr (.inr h)
    · rintro(h|h|h)
      · exact .inr (.inl h)
      · exact .inl h
      · exact .inr (.inr h)
theorem mg_lt {f:Nat→Int}:∀(n:Nat) (a b:List Nat),a.length+b.length≤n→a.Pairwise (Lf f)→b.Pairwise (Lf f)→(∀x∈a,∀y∈b,x<y)→(mg f a b).Pairwise (Lf f)
 |n,[],b,_,_,hb,_=>by rw[mg_nil];exact hb
 |n,x::a,[],_,ha,_,_=>by rw[mg_nil'];exact ha
 | 0,x::a,y::b,h,_,_,_=>by simp at h
 |n+1,x::a,y::b,h,ha,hb,hab=>by
  simp only[List.length_cons]at h
  have ha':=List.pairwise_cons.1 ha
  have hb':=List.pairwise_cons.1 hb
  have hxy:=hab x (List.mem_cons_self ..) y (List.mem_cons_self ..)
  by_cases g:f x≤f y
  · rw[mg_l g,List.pairwise_cons]
    have hx:Lf f x y:=by unfold Lf;omega
    refine⟨?_,mg_lt n a (y::b) (by simp only[List.length_cons];omega) ha'.2 hb fun p hp q hq=>hab p (List.mem_cons_of_mem _ hp) q hq⟩
    intro v hv
    rcases(mg_mem _ a (y::b) (Nat.le_refl _) v).1 hv with hv|hv
    · exact ha'.1 v hv
    · rcases List.mem_cons.1 hv with e|hv
      · rw[e];exact hx
      · exact hx.trans (hb'.1 v hv)
  · rw[mg_r g,List.pairwise_cons]
    have hx:Lf f y x:=by unfold Lf;omega
    refine⟨?_,mg_lt n (x::a) b (by simp only[List.length_cons];omega) ha hb'.2 fun p hp q hq=>hab p hp q (List.mem_cons_of_mem _ hq)⟩
    intro v hv
    rcases(mg_mem _ (x::a) b (Nat.le_refl _) v).1 hv with hv|hv
    · rcases List.mem_cons.1 hv with e|hv
      · rw[e];exact hx
      · exact hx.trans (ha'.1 v hv)
    · exact hb'.1 v hv
structure Orr (f:Nat→Int) (p q:Nat) (l:List Nat):Prop where
 lt:l.Pairwise (Lf f)
 all:∀v,v∈l↔p≤v∧v<q
theorem Orr.none {f:Nat→Int} {p q:Nat} (h:q≤p):Orr f p q []:=⟨List.Pairwise.nil,fun v=>⟨fun h=>(by cases h),fun h=>(by omega)⟩⟩
theorem Orr.one {f:Nat→Int} {p:Nat}:Orr f p (p+1) [p]:=⟨List.pairwise_singleton _ _,fun v=>by rw[List.mem_singleton];omega⟩
theorem Orr.merged {f:Nat→Int} {p m q:Nat} {a b:List Nat} (h1:p≤m) (h2:m≤q) (ha:Orr f p m a) (hb:Orr f m q b):Orr f p q (mg f a b):=
 ⟨mg_lt _ a b (Nat.le_refl _) ha.lt hb.lt fun x hx y hy=>by have:=(ha.all x).1 hx;have:=(hb.all y).1 hy;omega,
  fun v=>by rw[mg_mem _ a b (Nat.le_refl _) v,ha.all v,hb.all v];omega⟩
theorem Orr.ord {f:Nat→Int} {n:Nat} {l:List Nat} (h:Orr f 0 n l):Ord f n l:=⟨h.lt,fun v=>by rw[h.all v];omega⟩
theorem Ord.len {f:Nat→Int} {n:Nat} {l:List Nat} (h:Ord f n l):l.length=n:=by
 have nd:l.Nodup:=h.lt.imp fun{a b} (g:Lf f a b)=>by intro e;subst e;exact Lf.irr g
 have hp:l.Perm (List.range n):=(List.perm_ext_iff_of_nodup nd List.nodup_range).2 fun v=>by rw[h.all v,List.mem_range]
 rw[hp.length_eq,List.length_range]
end Go.Proofs.YtcfbjdplhgdpfaaGreatDoor
namespace Go.Proofs.YtcfbjdplhgdpfaaGreatDoor
set_option linter.unusedVariables false
set_option linter.unusedSimpArgs false
def fpS {α:Type} [DecidableEq α]:List α→α→Nat
 |[],_=>0
 |y::r,x=>if y=x then 0 else fpS r x+1
section
variable {α:Type} [DecidableEq α]
theorem fp_le (l:List α) (x:α):fpS l x≤l.length:=by
 induction l with
 |nil=>exact Nat.le_refl _
 |cons y r ih=>
  unfold fpS
  split
  · exact Nat.zero_le _
  · simp only[List.length_cons];omega
theorem fp_at {l:List α} {x:α} (h:fpS l x<l.length):l[fpS l x]?=some x:=by
 induction l with
 |nil=>cases h
 |cons y r ih=>
  by_cases hy:y=x
  · have e:fpS (y::r) x=0:=by unfold fpS;rw[if_pos hy]
    rw[e,hy];rfl
  · have e:fpS (y::r) x=fpS r x+1:=by show(if y=x then 0 else fpS r x+1)=_;rw[if_neg hy]
    rw[e]at h ⊢
    simp only[List.length_cons]at h
    rw[List.getElem?_cons_succ]
    exact ih (by omega)
theorem fp_min {l:List α} {x:α} {k:Nat} (h:k<fpS l x):l[k]?≠some x:=by
 induction l generalizing k with
 |nil=>cases h
 |cons y r ih=>
  by_cases hy:y=x
  · have e:fpS (y::r) x=0:=by unfold fpS;rw[if_pos hy]
    omega
  · have e:fpS (y::r) x=fpS r x+1:=by show(if y=x then 0 else fpS r x+1)=_;rw[if_neg hy]
    cases k with
    |zero=>intro hk;simp at hk;exact hy hk
    |succ k=>rw[List.getElem?_cons_succ];exact ih (by omega)
theorem fp_mem {l:List α} {x:α}:fpS l x<l.length↔x∈l:=by
 constructor
 · intro h
   exact List.mem_of_getElem? (fp_at h)
 · intro h
   obtain⟨j,hj,e⟩:=List.getElem_of_mem h
   rcases Nat.lt_or_ge (fpS l x) l.length with h1|h1
   · exact h1
   · exact absurd ((List.getElem?_eq_getElem hj).trans (congrArg some e)) (fp_min (by omega))
theorem fp_one {l:List α} {x:α} {k:Nat} (hk:k<l.length) (h1:l[k]?=some x) (h2:∀j,j<k→l[j]?≠some x):fpS l x=k:=by
 rcases Nat.lt_trichotomy (fpS l x) k with h|h|h
 · exact absurd (fp_at (by omega)) (h2 _ h)
 · exact h
 · exact absurd h1 (fp_min h)
def unS:List α→List α
 |[]=>[]
 |y::r=>y::(unS r).filter fun z=>decide (z≠y)
theorem un_mem {l:List α} {x:α}:x∈unS l↔x∈l:=by
 induction l with
 |nil=>simp[unS]
 |cons y r ih=>
  unfold unS
  rw[List.mem_cons,List.mem_filter,ih,List.mem_cons]
  by_cases h:x=y
  · simp[h]
  · simp[h]
theorem un_len (l:List α):(unS l).length≤l.length:=by
 induction l with
 |nil=>exact Nat.le_refl _
 |cons y r ih=>
  unfold unS
  have:=List.length_filter_le (fun z=>decide (z≠y)) (unS r)
  simp only[List.length_cons]
  omega
theorem un_snoc (l:List α) (x:α):unS (l++[x])=unS l++(if x∈l then[]else[x]):=by
 induction l with
 |nil=>simp[unS]
 |cons y r ih=>
  show y::(unS (r++[x])).filter _=_
  rw[ih,List.filter_append]
  show _=(y::(unS r).filter fun z=>decide (z≠y))++_
  rw[List.cons_append]
  congr 2
  by_cases h1:x∈r
  · simp[h1]
  · by_cases h2:x=y
    · simp[h2]
    · simp[h1,h2]
end
def whS:Nat→List Nat→List Nat
 |_,[]=>[]
 |i,n::r=>List.replicate n i++whS (i+1) r
theorem wh_len (i:Nat) (l:List Nat):(whS i l).length=l.sum:=by
 induction l generalizing i with
 |nil=>rfl
 |cons n r ih=>simp[whS,ih]
theorem wh_mem {i:Nat} {l:List Nat} {p:Nat} (h:p∈whS i l):i≤p∧p<i+l.length:=by
 induction l generalizing i with
 |nil=>cases h
 |cons n r ih=>
  rcases List.mem_append.1 h with h|h
  · rw[List.mem_replicate]at h
    simp only[List.length_cons];omega
  · have:=ih h
    simp only[List.length_cons];omega
theorem wh_snoc (i:Nat) (l:List Nat) (n:Nat):whS i (l++[n])=whS i l++List.replicate n (i+l.length):=by
 induction l generalizing i with
 |nil=>simp[whS]
 |cons m r ih=>
  show List.replicate m i++whS (i+1) (r++[n])=_
  rw[ih]
  show _=(List.replicate m i++whS (i+1) r)++_
  rw[List.append_assoc,List.length_cons,show i+1+r.length=i+(r.length+1)by omega]
section
variable {α:Type}
end
end Go.Proofs.YtcfbjdplhgdpfaaGreatDoor
namespace Go.Proofs.YtcfbjdplhgdpfaaGreatDoor
set_option linter.unusedVariables false
set_option linter.unusedSimpArgs false
noncomputable def orL (f:Nat→Int) (n:Nat):List Nat:=Classical.epsilon (Ord f n)
theorem orL_is {f:Nat→Int} {n:Nat} {l:List Nat} (h:Ord f n l):orL f n=l:=(Classical.epsilon_spec (p:=Ord f n) ⟨l,h⟩).one h
def intL (l:List Nat):List Int:=l.map fun i:Nat=>(i:Int)
def natL (l:List Int):List Nat:=l.map Int.toNat
theorem nat_int (l:List Nat):natL (intL l)=l:=by simp[natL,intL,Function.comp_def]
noncomputable def upK (sg:Int):Option Ar→Option Ar×Int
 |none=>(none,1)
 |some v=>if v.1.length≠1 then(none,3)else(some ([(v.2.length:Int)],intL (orL (fun i=>sg*v.2.getD i 0) v.2.length)),0)
def whK:Option Ar→Option Ar×Int
 |none=>(none,1)
 |some v=>if v.1.length≠1 then(none,3)else if v.2.all nearM=false then(none,5)else if∃x∈v.2,x<0 then(none,5)else
  if 4096<(natL v.2).sum then(none,8)else(some ([((natL v.2).sum:Int)],intL (whS 0 (natL v.2))),0)
def unK:Option Ar→Option Ar×Int
 |none=>(none,1)
 |some v=>if v.1.length≠1 then(none,3)else(some ([((unS v.2).length:Int)],unS v.2),0)
def fdK:Option Ar→Option Ar→Option Ar×Int
 |some v,some w=>if v.1.length≠1 then(none,3)else(some (w.1,w.2.map fun x=>(fpS v.2 x:Int)),0)
 |_,_=>(none,1)
def plE (w:Ar) (many:Int):Int:=if w.2.all nearM=false then 5 else if∃x∈w.2,x<0∨many≤x then 6 else 0
def ixK:Option Ar→Option Ar→Option Ar×Int
 |some v,some w=>if v.1=[]then(none,3)else if plE w (v.1.getD 0 0)≠0 then(none,plE w (v.1.getD 0 0))else
  if szE (w.1++v.1.tail)≠0 then(none,szE (w.1++v.1.tail))else(some (w.1++v.1.tail,its v.2 (kI v.1) (natL w.2)),0)
 |_,_=>(none,1)
theorem plE_ok {w:Ar} {many:Int} (h:plE w many=0):w.2.all nearM=true∧∀x∈w.2,0≤x∧x<many:=by
 unfold plE at h
 split at h
 · cases h
 · rename_i h1
   split at h
   · cases h
   · rename_i h2
     refine⟨by simpa using h1,fun x hx=> ?_⟩
     by_cases hc:x<0∨many≤x
     · exact absurd ⟨x,hx,hc⟩ h2
     · omega
theorem natL_at {l:List Int} (h:∀x∈l,0≤x) {k:Nat} (hk:k<l.length):((natL l).getD k 0:Int)=l.getD k 0:=by
 have hx:=h l[k] (List.getElem_mem _)
 simp only[natL,List.getD_eq_getElem?_getD,List.getElem?_map,List.getElem?_eq_getElem hk,Option.map_some,Option.getD_some]
 omega
theorem natL_lt {l:List Int} {n:Nat} (h:∀x∈l,0≤x∧x<(n:Int)):∀i∈natL l,i<n:=by
 intro i hi
 obtain⟨x,hx,rfl⟩:=List.mem_map.1 hi
 have:=h x hx
 omega
end Go.Proofs.YtcfbjdplhgdpfaaGreatDoor

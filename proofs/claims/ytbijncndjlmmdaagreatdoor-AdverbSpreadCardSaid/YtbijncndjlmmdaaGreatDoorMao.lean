import Derived.Test.YtbijncndjlmmdaaGreatDoorMam
import Derived.Test.YtbijncndjlmmdaaGreatDoorMan
import Derived.Deep.AppendLies
import Derived.Laws.CopyOwn
import Derived.IntWalk
import Derived.Shelf.LaysM
import Derived.Shelf.LaysC
import Derived.Shelf.Strconv.ParseIntPublic10
import Derived.Test.YtbijncndjlmmdaaGreatDoorProg
import Derived.Test.YtbijncndjlmmdaaGreatDoorMae
set_option maxHeartbeats 800000
set_option maxRecDepth 10000
namespace Go.Proofs.YtbijncndjlmmdaaGreatDoor
set_option linter.unusedVariables false
set_option linter.unusedSimpArgs false
def fpS {α:Type} [DecidableEq α]:List α→α→Nat
 |[],_=>0
 |y::r,x=>if y=x then 0 else fpS r x+1
section
variable {α:Type} [DecidableEq α]
theorem fp_le (l:List α) (x:α):fpS l x≤l.length:=by
 induction l with
 |nil=>exact Nat.le_refl _
 |cons y r ih=>
  unfold fpS
  split
  · exact Nat.zero_le _
  · simp only[List.length_cons];omega
theorem fp_at {l:List α} {x:α} (h:fpS l x<l.length):l[fpS l x]?=some x:=by
 induction l with
 |nil=>cases h
 |cons y r ih=>
  by_cases hy:y=x
  · have e:fpS (y::r) x=0:=by unfold fpS;rw[if_pos hy]
    rw[e,hy];rfl
  · have e:fpS (y::r) x=fpS r x+1:=by show(if y=x then 0 else fpS r x+1)=_;rw[if_neg hy]
    rw[e]at h ⊢
    simp only[List.length_cons]at h
    rw[List.getElem?_cons_succ]
    exact ih (by omega)
theorem fp_min {l:List α} {x:α} {k:Nat} (h:k<fpS l x):l[k]?≠some x:=by
 induction l generalizing k with
 |nil=>cases h
 |cons y r ih=>
  by_cases hy:y=x
  · have e:fpS (y::r) x=0:=by unfold fpS;rw[if_pos hy]
    omega
  · have e:fpS (y::r) x=fpS r x+1:=by show(if y=x then 0 else fpS r x+1)=_;rw[if_neg hy]
    cases k with
    |zero=>intro hk;simp at hk;exact hy hk
    |succ k=>rw[List.getElem?_cons_succ];exact ih (by omega)
theorem fp_mem {l:List α} {x:α}:fpS l x<l.length↔x∈l:=by
 constructor
 · intro h
   exact List.mem_of_getElem? (fp_at h)
 · intro h
   obtain⟨j,hj,e⟩:=List.getElem_of_mem h
   rcases Nat.lt_or_ge (fpS l x) l.length with h1|h1
   · exact h1
   · exact absurd ((List.getElem?_eq_getElem hj).trans (congrArg some e)) (fp_min (by omega))
theorem fp_one {l:List α} {x:α} {k:Nat} (hk:k<l.length) (h1:l[k]?=some x) (h2:∀j,j<k→l[j]?≠some x):fpS l x=k:=by
 rcases Nat.lt_trichotomy (fpS l x) k with h|h|h
 · exact absurd (fp_at (by omega)) (h2 _ h)
 · exact h
 · exact absurd h1 (fp_min h)
def unS:List α→List α
 |[]=>[]
 |y::r=>y::(unS r).filter fun z=>decide (z≠y)
theorem un_mem {l:List α} {x:α}:x∈unS l↔x∈l:=by
 induction l with
 |nil=>simp[unS]
 |cons y r ih=>
  unfold unS
  rw[List.mem_cons,List.mem_filter,ih,List.mem_cons]
  by_cases h:x=y
  · simp[h]
  · simp[h]
theorem un_len (l:List α):(unS l).length≤l.length:=by
 induction l with
 |nil=>exact Nat.le_refl _
 |cons y r ih=>
  unfold unS
  have:=List.length_filter_le (fun z=>decide (z≠y)) (unS r)
  simp only[List.length_cons]
  omega
theorem un_snoc (l:List α) (x:α):unS (l++[x])=unS l++(if x∈l then[]else[x]):=by
 induction l with
 |nil=>simp[unS]
 |cons y r ih=>
  show y::(unS (r++[x])).filter _=_
  rw[ih,List.filter_append]
  show _=(y::(unS r).filter fun z=>decide (z≠y))++_
  rw[List.cons_append]
  congr 2
  by_cases h1:x∈r
  · simp[h1]
  · by_cases h2:x=y
    · simp[h2]
    · simp[h1,h2]
end
def whS:Nat→List Nat→List Nat
 |_,[]=>[]
 |i,n::r=>List.replicate n i++whS (i+1) r
theorem wh_len (i:Nat) (l:List Nat):(whS i l).length=l.sum:=by
 induction l generalizing i with
 |nil=>rfl
 |cons n r ih=>simp[whS,ih]
theorem wh_mem {i:Nat} {l:List Nat} {p:Nat} (h:p∈whS i l):i≤p∧p<i+l.length:=by
 induction l generalizing i with
 |nil=>cases h
 |cons n r ih=>
  rcases List.mem_append.1 h with h|h
  · rw[List.mem_replicate]at h
    simp only[List.length_cons];omega
  · have:=ih h
    simp only[List.length_cons];omega
theorem wh_snoc (i:Nat) (l:List Nat) (n:Nat):whS i (l++[n])=whS i l++List.replicate n (i+l.length):=by
 induction l generalizing i with
 |nil=>simp[whS]
 |cons m r ih=>
  show List.replicate m i++whS (i+1) (r++[n])=_
  rw[ih]
  show _=(List.replicate m i++whS (i+1) r)++_
  rw[List.append_assoc,List.length_cons,show i+1+r.length=i+(r.length+1)by omega]
section
variable {α:Type}
end
end Go.Proofs.YtbijncndjlmmdaaGreatDoor
namespace Go.Proofs.YtbijncndjlmmdaaGreatDoor
set_option linter.unusedVariables false
set_option linter.unusedSimpArgs false
noncomputable def orL (f:Nat→Int) (n:Nat):List Nat:=Classical.epsilon (Ord f n)
theorem orL_is {f:Nat→Int} {n:Nat} {l:List Nat} (h:Ord f n l):orL f n=l:=(Classical.epsilon_spec (p:=Ord f n) ⟨l,h⟩).one h
def intL (l:List Nat):List Int:=l.map fun i:Nat=>(i:Int)
def natL (l:List Int):List Nat:=l.map Int.toNat
noncomputable def upK (sg:Int):Option Ar→Option Ar×Int
 |none=>(none,1)
 |some v=>if v.1.length≠1 then(none,3)else(some ([(v.2.length:Int)],intL (orL (fun i=>sg*v.2.getD i 0) v.2.length)),0)
def whK:Option Ar→Option Ar×Int
 |none=>(none,1)
 |some v=>if v.1.length≠1 then(none,3)else if v.2.all nearM=false then(none,5)else if∃x∈v.2,x<0 then(none,5)else
  if 4096<(natL v.2).sum then(none,8)else(some ([((natL v.2).sum:Int)],intL (whS 0 (natL v.2))),0)
def unK:Option Ar→Option Ar×Int
 |none=>(none,1)
 |some v=>if v.1.length≠1 then(none,3)else(some ([((unS v.2).length:Int)],unS v.2),0)
def fdK:Option Ar→Option Ar→Option Ar×Int
 |some v,some w=>if v.1.length≠1 then(none,3)else(some (w.1,w.2.map fun x=>(fpS v.2 x:Int)),0)
 |_,_=>(none,1)
def plE (w:Ar) (many:Int):Int:=if w.2.all nearM=false then 5 else if∃x∈w.2,x<0∨many≤x then 6 else 0
def ixK:Option Ar→Option Ar→Option Ar×Int
 |some v,some w=>if v.1=[]then(none,3)else if plE w (v.1.getD 0 0)≠0 then(none,plE w (v.1.getD 0 0))else
  if szE (w.1++v.1.tail)≠0 then(none,szE (w.1++v.1.tail))else(some (w.1++v.1.tail,its v.2 (kI v.1) (natL w.2)),0)
 |_,_=>(none,1)
theorem plE_ok {w:Ar} {many:Int} (h:plE w many=0):w.2.all nearM=true∧∀x∈w.2,0≤x∧x<many:=by
 unfold plE at h
 split at h
 · cases h
 · rename_i h1
   split at h
   · cases h
   · rename_i h2
     refine⟨by simpa using h1,fun x hx=> ?_⟩
     by_cases hc:x<0∨many≤x
     · exact absurd ⟨x,hx,hc⟩ h2
     · omega
theorem natL_at {l:List Int} (h:∀x∈l,0≤x) {k:Nat} (hk:k<l.length):((natL l).getD k 0:Int)=l.getD k 0:=by
 have hx:=h l[k] (List.getElem_mem _)
 simp only[natL,List.getD_eq_getElem?_getD,List.getElem?_map,List.getElem?_eq_getElem hk,Option.map_some,Option.getD_some]
 omega
theorem natL_lt {l:List Int} {n:Nat} (h:∀x∈l,0≤x∧x<(n:Int)):∀i∈natL l,i<n:=by
 intro i hi
 obtain⟨x,hx,rfl⟩:=List.mem_map.1 hi
 have:=h x hx
 omega
end Go.Proofs.YtbijncndjlmmdaaGreatDoor
namespace Go.Proofs.YtbijncndjlmmdaaGreatDoor
set_option linter.unusedVariables false
set_option linter.unusedSimpArgs false
open Go.RowKit
def St (W:World) (a:Option Addr) (n:Nat) (l:List ByteArray):Prop:=
 l.length=n∧(0<n→∃b off,a=some ⟨b,off,none⟩∧∀j,j<n→W.cell? ⟨b,off+j,none⟩=some (.string (l.getD j ByteArray.empty)))
theorem St.below {W W':World} {a:Option Addr} {n:Nat} {l:List ByteArray} (h:St W a n l) (hb:Below W.heap.size W W'):St W' a n l:=by
 refine⟨h.1,fun hn=> ?_⟩
 obtain⟨b,off,e,hc⟩:=h.2 hn
 exact⟨b,off,e,fun j hj=>(hb.cell (show(⟨b,off+j,none⟩:Addr).block<W.heap.size from World.block_lt_of_cell? W _ (hc j hj))).trans (hc j hj)⟩
theorem St.nil (W:World) (a:Option Addr):St W a 0 []:=⟨rfl,fun h=>by omega⟩
structure Vl (W:World) (a:Option Addr) (n:Nat) (b:Option Addr) (m:Nat) (l:List Int) (es:List ByteArray):Prop where
 s:Sl W a n l
 t:St W b m es
 mm:m≤9223372036854775807
structure Cp (n c m d:Nat):Prop where
 nc:n≤c
 cm:c≤maxLen
 md:m≤d
 dm:d≤maxLen
section
variable {W W':World} {a b:Option Addr} {g n c m d:Nat} {l:List Int} {es:List ByteArray}
theorem Vl.below (h:Vl W a n b m l es) (hb:Below W.heap.size W W'):Vl W' a n b m l es:=⟨h.s.below hb,h.t.below hb,h.mm⟩
theorem Vl.none_ (W:World):Vl W none 0 none 0 [] []:=⟨Sl.nil _ _,St.nil _ _,by omega⟩
def Bx (W:World) (g:Nat) (a:Option Addr) (n c:Nat) (b:Option Addr) (m d:Nat):Prop:=W.heap[g]?=some (.cells #[.slice a n c,.slice b m d] 25 (0,0))
theorem Bx.lt (h:Bx W g a n c b m d):g<W.heap.size:=(Array.getElem?_eq_some_iff.1 h).1
theorem Bx.c0 (h:Bx W g a n c b m d):W.cell? ⟨g,0,none⟩=some (.slice a n c):=by rw[cell_of_row _ _ 0 _ _ _ h];rfl
theorem Bx.c1 (h:Bx W g a n c b m d):W.cell? ⟨g,1,none⟩=some (.slice b m d):=by rw[cell_of_row _ _ 1 _ _ _ h];rfl
theorem Bx.f (h:Bx W g a n c b m d) (i:Nat):W.frozen? ⟨g,i,none⟩=false:=frozen_of_row _ _ i _ _ h
theorem Bx.below (h:Bx W g a n c b m d) {B:Nat} (hb:Below B W W') (hg:g<B):Bx W' g a n c b m d:=(hb.block g hg).trans h
theorem Bx.alloc (h:Bx W g a n c b m d) (o:Obj):Bx (W.alloc o) g a n c b m d:=(Below.heap_alloc W o g h.lt).trans h
theorem Bx.new (W:World) (a:Option Addr) (n c:Nat) (b:Option Addr) (m d:Nat):Bx (W.alloc (.cells #[.slice a n c,.slice b m d] 25)) W.heap.size a n c b m d:=heap_alloc_new W _
theorem Bx.set (h:Bx W g a n c b m d) (a':Option Addr) (n' c':Nat) (b':Option Addr) (m' d':Nat):Bx ((W.setCell ⟨g,0,none⟩ (.slice a' n' c')).setCell ⟨g,1,none⟩ (.slice b' m' d')) g a' n' c' b' m' d':=by
 unfold Bx at h ⊢
 simp[World.setCell,Array.getElem?_modify,h]
theorem Bx.setOther (h:Bx W g a n c b m d) {p:Addr} (hp:g≠p.block) (u:Value):Bx (W.setCell p u) g a n c b m d:=(Below.heap_setCell W p u g hp).trans h
theorem Bx.cell_far (h:Bx W g a n c b m d) {p:Addr} {x:Value} (hp:W.cell? p=some x) (hx:∀a n c,x≠ .slice a n c) (u v:Value):((W.setCell ⟨g,0,none⟩ u).setCell ⟨g,1,none⟩ v).cell? p=some x:=by
 have p0:p≠⟨g,0,none⟩:=by
  rintro rfl
  rw[h.c0]at hp
  injection hp with hp
  exact hx _ _ _ hp.symm
 have p1:p≠⟨g,1,none⟩:=by
  rintro rfl
  rw[h.c1]at hp
  injection hp with hp
  exact hx _ _ _ hp.symm
 rw[World.cell?_setCell_other _ _ _ _ p1.symm,World.cell?_setCell_other _ _ _ _ p0.symm,hp]
theorem Bx.sl (h:Bx W g a n c b m d) {a':Option Addr} {n':Nat} (hs:Sl W a' n' l) (u v:Value):Sl ((W.setCell ⟨g,0,none⟩ u).setCell ⟨g,1,none⟩ v) a' n' l:=by
 refine⟨hs.1,fun hn=> ?_⟩
 obtain⟨bb,off,e,hc⟩:=hs.2 hn
 exact⟨bb,off,e,fun j hj=>h.cell_far (hc j hj) (by intro _ _ _ hh;cases hh) u v⟩
theorem Bx.st (h:Bx W g a n c b m d) {a':Option Addr} {n':Nat} (hs:St W a' n' es) (u v:Value):St ((W.setCell ⟨g,0,none⟩ u).setCell ⟨g,1,none⟩ v) a' n' es:=by
 refine⟨hs.1,fun hn=> ?_⟩
 obtain⟨bb,off,e,hc⟩:=hs.2 hn
 exact⟨bb,off,e,fun j hj=>h.cell_far (hc j hj) (by intro _ _ _ hh;cases hh) u v⟩
theorem below_made {B:Nat} (hb:Below B W W') (hg:B≤g) (u v:Value):Below B W ((W'.setCell ⟨g,0,none⟩ u).setCell ⟨g,1,none⟩ v):=(hb.setCell hg u).setCell hg v
end
theorem EqualS_is (a1 a2:Option Addr) (n c m d:Nat) (l k:List ByteArray) (W:World) (h1:St W a1 n l) (h2:St W a2 m k) (hn:n≤9223372036854775807) (hm:m≤9223372036854775807):
 Calls Tryz.prog 53 #[.slice a1 n c,.slice a2 m d] W fun x W'=>x=.returned (.bool (decide (l=k)))∧Below W.heap.size W W':=by
 by_cases hnm:n=m
 · subst hnm
   by_cases h0:n=0
   · subst h0
     have e1:=List.length_eq_zero_iff.1 h1.1
     have e2:=List.length_eq_zero_iff.1 h2.1
     subst e1 e2
     refine(Tryz.slices_Equal_string_empty a1 a2 c 0 d W (by decide)).mono ?_
     rintro x w ⟨rfl,rfl⟩
     exact⟨rfl,Below.refl _ _⟩
   · obtain⟨b1,o1,rfl,hc1⟩:=h1.2 (by omega)
     obtain⟨b2,o2,rfl,hc2⟩:=h2.2 (by omega)
     refine(Tryz.slices_Equal_string b1 o1 n c b2 o2 n d l k W (by rw[h1.1];exact Nat.le_refl _) (by rw[h2.1];exact Nat.le_refl _) hn hm (fun j hj=>hc1 j (by rw[←h1.1];exact hj)) (fun j hj=>hc2 j (by rw[←h2.1];exact hj))).mono ?_
     rintro x w ⟨rfl,q,rfl⟩
     refine⟨?_,⟨rfl,rfl,rfl,Nat.le_refl _,fun _ _=>rfl⟩⟩
     rw[List.take_of_length_le (by rw[h1.1];exact Nat.le_refl _),List.take_of_length_le (by rw[h2.1];exact Nat.le_refl _)]
 · refine(Tryz.slices_Equal_string_lens a1 a2 n c m d W hnm).mono ?_
   rintro x w ⟨rfl,rfl⟩
   refine⟨?_,Below.refl _ _⟩
   have:decide (l=k)=false:=decide_eq_false (by rintro rfl;exact hnm (h1.1.symm.trans h2.1))
   rw[this]
def mayV (l:List Int) (es:List ByteArray):Bool:=decide (szE l=0)&&decide ((es.length:Int)=szV l)&&es.all fun s=>mayL s.data.toList
structure MayVl (l:List Int) (es:List ByteArray):Prop where
 e:szE l=0
 len:(es.length:Int)=pr l
 all:∀j,j<es.length→mayL (es.getD j ByteArray.empty).data.toList=true
theorem all_at {p:ByteArray→Bool} {es:List ByteArray}:es.all p=true↔∀j,j<es.length→p (es.getD j ByteArray.empty)=true:=by
 rw[List.all_eq_true]
 constructor
 · intro h j hj
   rw[List.getD_eq_getElem?_getD,List.getElem?_eq_getElem hj]
   exact h _ (List.getElem_mem hj)
 · intro h x hx
   obtain⟨j,hj,rfl⟩:=List.getElem_of_mem hx
   have:=h j hj
   rwa [List.getD_eq_getElem?_getD,List.getElem?_eq_getElem hj]at this
theorem mayV_yes {l:List Int} {es:List ByteArray}:mayV l es=true↔MayVl l es:=by
 unfold mayV
 rw[Bool.and_eq_true,Bool.and_eq_true,decide_eq_true_eq,decide_eq_true_eq,all_at]
 constructor
 · rintro⟨⟨h1,h2⟩,h3⟩
   exact⟨h1,by rw[h2,szV_pr h1],h3⟩
 · rintro⟨h1,h2,h3⟩
   exact⟨⟨h1,by rw[h2,szV_pr h1]⟩,h3⟩
theorem mayV_e {l:List Int} {es:List ByteArray} (h:szE l≠0):mayV l es=false:=by
 unfold mayV;rw[decide_eq_false h];rfl
theorem mayV_len {l:List Int} {es:List ByteArray} (h:(es.length:Int)≠szV l):mayV l es=false:=by
 unfold mayV;rw[decide_eq_false h,Bool.and_false];rfl
theorem mayV_at {l:List Int} {es:List ByteArray} {j:Nat} (hj:j<es.length) (h:mayL (es.getD j ByteArray.empty).data.toList=false):mayV l es=false:=by
 rw[←Bool.not_eq_true]
 intro hh
 rw[(mayV_yes.1 hh).all j hj]at h
 cases h
def fewB (l:List Int) (es:List ByteArray):Bool:=(es.take 301).all (fun s=>decide (s.size≤120))&&(decide (es.length≤300)&&decide (l.length≤20))
theorem fewB_yes {l:List Int} {es:List ByteArray} (h:fewB l es=true):l.length≤20∧es.length≤300∧∀j,j<es.length→(es.getD j ByteArray.empty).size≤120:=by
 unfold fewB at h
 rw[Bool.and_eq_true,Bool.and_eq_true,decide_eq_true_eq,decide_eq_true_eq,all_at]at h
 obtain⟨h1,h2,h3⟩:=h
 refine⟨h3,h2,fun j hj=> ?_⟩
 have:=h1 j (by rw[List.length_take];omega)
 rw[List.getD_eq_getElem?_getD,List.getElem?_take_of_lt (by omega),←List.getD_eq_getElem?_getD]at this
 simpa using this
theorem fewB_at {l:List Int} {es:List ByteArray} {j:Nat} (hj:j<es.length) (h3:j<301) (h:120<(es.getD j ByteArray.empty).size):fewB l es=false:=by
 have e:(es.take 301).all (fun s=>decide (s.size≤120))=false:=by
  rw[←Bool.not_eq_true]
  intro hh
  have:=all_at.1 hh j (by rw[List.length_take];omega)
  rw[List.getD_eq_getElem?_getD,List.getElem?_take_of_lt h3,←List.getD_eq_getElem?_getD]at this
  have:=of_decide_eq_true this
  omega
 unfold fewB
 rw[e];rfl
theorem fewB_all {l:List Int} {es:List ByteArray} (h:∀j,j<es.length→j<301→(es.getD j ByteArray.empty).size≤120):fewB l es=(decide (es.length≤300)&&decide (l.length≤20)):=by
 have e:(es.take 301).all (fun s=>decide (s.size≤120))=true:=by
  rw[all_at]
  intro j hj
  rw[List.length_take]at hj
  rw[List.getD_eq_getElem?_getD,List.getElem?_take_of_lt (by omega),←List.getD_eq_getElem?_getD]
  exact decide_eq_true (h j (by omega) (by omega))
 unfold fewB
 rw[e];rfl
def part (es:List ByteArray) (k i:Nat):List ByteArray:=(es.drop (i*k)).take k
theorem part_length {es:List ByteArray} {k i:Nat} (h:(i+1)*k≤es.length):(part es k i).length=k:=by
 unfold part
 rw[Nat.add_mul,Nat.one_mul]at h
 rw[List.length_take,List.length_drop];omega
end Go.Proofs.YtbijncndjlmmdaaGreatDoor
namespace Go.Proofs.YtbijncndjlmmdaaGreatDoor
set_option linter.unusedVariables false
set_option linter.unusedSimpArgs false
open Go.RowKit
def BoolEnd (b:Bool) (W:World) (e:Ending) (W':World):Prop:=e=.returned (.bool b)∧Below W.heap.size W W'
theorem Bx.two (W:World) (o:Obj) (a:Option Addr) (n c:Nat) (b:Option Addr) (m d:Nat):Bx ((W.alloc o).alloc (.cells #[.slice a n c,.slice b m d] 25)) (W.heap.size+1) a n c b m d:=by
 have:=Bx.new (W.alloc o) a n c b m d
 rwa [show(W.alloc o).heap.size=W.heap.size+1 by simp]at this
theorem VSame_is {a1 b1 a2 b2:Option Addr} {n1 c1 m1 d1 n2 c2 m2 d2:Nat} {l k:List Int} {es fs:List ByteArray} (W:World) (h1:Vl W a1 n1 b1 m1 l es) (h2:Vl W a2 n2 b2 m2 k fs) (q1:n1≤1000000) (q2:n2≤1000000):
 Calls Tryz.prog 20 #[.agg #[.slice a1 n1 c1,.slice b1 m1 d1],.agg #[.slice a2 n2 c2,.slice b2 m2 d2]] W (BoolEnd ((l==k)&&decide (es=fs)) W):=by
 have K1:=Lib.hid (fun w (hb:Below W.heap.size W w)=>Same_is a1 a2 n1 c1 n2 c2 l k w (h1.s.below hb) (h2.s.below hb) q1 q2)
 have K2:=Lib.hid (fun w (hb:Below W.heap.size W w)=>EqualS_is b1 b2 m1 d1 m2 d2 es fs w (h1.t.below hb) (h2.t.below hb) h1.mm h2.mm)
 clear h1 h2 q1 q2
 generalize (l==k)=p at K1 ⊢
 generalize decide (es=fs)=q at K2 ⊢
 go_enter Tryz.func20,Tryz.ntmps20
 go_wp2_with fail
 have hA:=(Bx.new W a1 n1 c1 b1 m1 d1).alloc (.cells #[.slice a2 n2 c2,.slice b2 m2 d2] 25)
 have hB:=Bx.two W (.cells #[.slice a1 n1 c1,.slice b1 m1 d1] 25) a2 n2 c2 b2 m2 d2
 have hb0:Below W.heap.size W ((W.alloc (.cells #[.slice a1 n1 c1,.slice b1 m1 d1] 25)).alloc (.cells #[.slice a2 n2 c2,.slice b2 m2 d2] 25)):=((Below.refl _ _).alloc (Nat.le_refl _) _).alloc (by simp) _
 refine(K1.out _ hb0).mono ?_
 rintro x w1 ⟨rfl,hb1⟩
 have x1:=(hA.below hb1 hA.lt).c1
 have x2:=(hB.below hb1 hB.lt).c1
 have hb2:=hb0.trans (hb1.mono hb0.size)
 clear hA hB hb0 hb1
 rcases Bool.eq_false_or_eq_true p with rfl|rfl
 · go_wp2_with fail
   refine(K2.out _ hb2).mono ?_
   rintro x w3 ⟨rfl,hb3⟩
   go_wp2_with fail
   go_ret
   exact⟨rfl,hb2.trans (hb3.mono hb2.size)⟩
 · go_wp2_with fail
   go_ret
   exact⟨rfl,hb2⟩
theorem VMay_is {a b:Option Addr} {n c m d:Nat} {l:List Int} {es:List ByteArray} (W:World) (h:Vl W a n b m l es) (hz:∀j,j<m→(es.getD j ByteArray.empty).size≤maxLen):
 Calls Tryz.prog 21 #[.agg #[.slice a n c,.slice b m d]] W (BoolEnd (mayV l es) W):=by
 have K1:=Lib.hid (fun w (hb:Below W.heap.size W w)=>Size_is a n c l w (h.s.below hb))
 have r2:=h.mm
 have HT:=Lib.hid h.t
 have HZ:=Lib.hid hz
 clear h hz
 have hb0:Below W.heap.size W (W.alloc (.cells #[.slice a n c,.slice b m d] 25)):=(Below.refl _ _).alloc (Nat.le_refl _) _
 by_cases he:szE l=0
 · by_cases hm:(m:Int)=szV l
   · have hmv:∀(h:∀j,j<m→mayL (es.getD j ByteArray.empty).data.toList=true),mayV l es=true:=fun h=>mayV_yes.2 ⟨he,by rw[HT.out.1,hm,szV_pr he],by rw[HT.out.1];exact h⟩
     have hmn:∀j,j<m→mayL (es.getD j ByteArray.empty).data.toList=false→mayV l es=false:=fun j hj h=>mayV_at (by rw[HT.out.1];exact hj) h
     have HM:=Lib.hid (And.intro hmv hmn)
     clear hmv hmn
     rw[←hm,he]at K1
     clear hm he
     generalize mayV l es=v at HM ⊢
     go_enter Tryz.func21,Tryz.ntmps21
     go_wp2_with fail
     refine(K1.out _ hb0).mono ?_
     rintro x w1 ⟨rfl,rfl⟩
     go_wp2_with fail
     go_loop [25] (fun i=>∃k:Nat,i=.int .i64 k∧k≤m∧Hid (∀j,j<k→mayL (es.getD j ByteArray.empty).data.toList=true)) (fun i=>m-(intOf i).toNat)
     case atStart=>exact⟨0,rfl,by omega,Lib.hid fun j hj=>by omega⟩
     case round=>
      obtain⟨k,rfl,hk,HI⟩:=hrel
      by_cases hlt:k<m
      · have e2:(k:Int)<(m:Int):=by omega
        obtain⟨bb,off,rfl,hc⟩:=HT.out.2 (by omega)
        have hck:=(hb0.cell (p:=⟨bb,off+k,none⟩) (World.block_lt_of_cell? W _ (hc k hlt))).trans (hc k hlt)
        have hs:=HZ.out k hlt
        clear hc
        obtain⟨s,hse⟩:∃s,s=es.getD k ByteArray.empty:=⟨_,rfl⟩
        rw[←hse]at hck hs
        have KM:=Lib.hid (fun w=>may_any s w hs)
        have HE:=Lib.hid hse
        clear hse hs
        cases hv:mayL s.data.toList
        · rw[hv]at KM
          obtain rfl:v=false:=HM.out.2 k hlt (by rw[←HE.out];exact hv)
          clear hv
          go_wp2_with fail
          refine(KM.out _).mono ?_
          rintro x w2 ⟨rfl,rfl⟩
          go_wp2_with fail
          go_ret
          exact⟨rfl,hb0⟩
        · rw[hv]at KM
          have HV:=Lib.hid hv
          clear hv
          go_wp2_with fail
          refine(KM.out _).mono ?_
          rintro x w2 ⟨rfl,rfl⟩
          go_wp2_with fail
          go_round
          case rel=>
           refine⟨k+1,by go_num,by omega,Lib.hid fun j hj=> ?_⟩
           rcases Nat.lt_or_ge j k with h2|h2
           · exact HI.out j h2
           · rw[show j=k by omega,←HE.out];exact HV.out
          case measure=>simp[intOf];omega
      · have e2:¬(k:Int)<(m:Int):=by omega
        obtain rfl:v=true:=HM.out.1 fun j hj=>HI.out j (by omega)
        go_wp2_with fail
        go_ret
        exact⟨rfl,hb0⟩
   · have hv:=mayV_len (l:=l) (es:=es) (by rw[HT.out.1];exact hm)
     rw[hv]
     rw[he]at K1
     clear hv he
     generalize szV l=P at*
     go_enter Tryz.func21,Tryz.ntmps21
     go_wp2_with fail
     refine(K1.out _ hb0).mono ?_
     rintro x w1 ⟨rfl,rfl⟩
     go_wp2_with fail
     go_ret
     exact⟨rfl,hb0⟩
 · have hv:=mayV_e (es:=es) he
   rw[hv]
   rw[szV_zero he]at K1
   clear hv
   generalize szE l=E at*
   have hE:(E != 0)=true:=by simpa using he
   go_enter Tryz.func21,Tryz.ntmps21
   go_wp2_with fail
   refine(K1.out _ hb0).mono ?_
   rintro x w1 ⟨rfl,rfl⟩
   go_wp2_with fail
   all_goals
    go_ret
    exact⟨rfl,hb0⟩
theorem VMany_is {a b:Option Addr} {n c m d:Nat} {l:List Int} {es:List ByteArray} (W:World) (h:Vl W a n b m l es) (hn:n≤20) (hc:n≤c) (hc2:c≤maxLen):
 Calls Tryz.prog 22 #[.agg #[.slice a n c,.slice b m d]] W (IntEnd (itV l) W):=by
 have K1:=Lib.hid (fun w (hb:Below W.heap.size W w)=>Items_is a n c l w (h.s.below hb) hn hc hc2)
 clear h hc hc2
 generalize itV l=v at K1 ⊢
 go_enter Tryz.func22,Tryz.ntmps22
 go_wp2_with fail
 have hb0:Below W.heap.size W (W.alloc (.cells #[.slice a n c,.slice b m d] 25)):=(Below.refl _ _).alloc (Nat.le_refl _) _
 refine(K1.out _ hb0).mono ?_
 rintro x w1 ⟨a',n',c',rfl,hs,hn',hb1⟩
 clear hs
 go_wp2_with fail
 go_ret
 exact⟨rfl,hb0.trans (hb1.mono hb0.size)⟩
end Go.Proofs.YtbijncndjlmmdaaGreatDoor
namespace Go.Proofs.YtbijncndjlmmdaaGreatDoor
set_option linter.unusedVariables false
set_option linter.unusedSimpArgs false
open Go.RowKit
theorem infoInt1:(Tryz.prog.info? 3).map (fun i=>(i.zero,i.size,i.bytes))=some (some (.int .i64 0),1,8):=by kernel_rfl
theorem infoStr:(Tryz.prog.info? 9).map (fun i=>(i.zero,i.size,i.bytes))=some (some (.string ⟨#[]⟩),1,16):=by kernel_rfl
def Sr (w:World) (g n:Nat) (F:Nat→ByteArray):Prop:=w.rowIs g 9 n (fun j=>Value.string (F j))
theorem Sr.made (w:World) (n:Nat):Sr (w.alloc (.cells (madeCells #[.string ⟨#[]⟩] n) 9)) w.heap.size n (fun _=>⟨#[]⟩):=World.rowIs_made w _ n _
theorem Sr.cell {w:World} {g n:Nat} {F:Nat→ByteArray} (h:Sr w g n F) {i:Nat} (hi:i<n):w.cell? ⟨g,i,none⟩=some (.string (F i)):=by
 obtain⟨c,hg,_,hc⟩:=h
 rw[cell_of_row w g i c _ _ hg,hc i hi]
theorem Sr.lt {w:World} {g n:Nat} {F:Nat→ByteArray} (h:Sr w g n F):g<w.heap.size:=by
 obtain⟨c,hg,_,hc⟩:=h
 exact(Array.getElem?_eq_some_iff.1 hg).1
theorem Sr.block {w w':World} {g n:Nat} {F:Nat→ByteArray} (h:Sr w g n F) (e:w'.heap[g]?=w.heap[g]?):Sr w' g n F:=by
 obtain⟨c,hg,h1,hc⟩:=h
 exact⟨c,e.trans hg,h1,hc⟩
theorem Sr.below {w w':World} {g n:Nat} {F:Nat→ByteArray} (h:Sr w g n F) (hb:Below w.heap.size w w'):Sr w' g n F:=h.block (hb.block g h.lt)
theorem Sr.st {w:World} {g n:Nat} {F:Nat→ByteArray} (h:Sr w g n F) {l:List ByteArray} (hl:l.length=n) (he:∀j,j<n→F j=l.getD j ByteArray.empty):St w (some ⟨g,0,none⟩) n l:=
 ⟨hl,fun _=>⟨g,0,rfl,fun j hj=>by rw[Nat.zero_add,h.cell hj,he j hj]⟩⟩
theorem run_mks (n:Nat) (hn:n≤1000000) (w:World):
 (Instr.makeSlice 23 (.int .i64 (n:Int)) (.int .i64 (n:Int))).run Tryz.prog w=.ok (.slice (some ⟨w.heap.size,0,none⟩) n n) (w.alloc (.cells (madeCells #[.string ⟨#[]⟩] n) 9)):=
 run_make_row' 23 9 _ 16 Tryz.underlying23 infoStr rfl _ _ n (by omega) (by omega) w
theorem item_div {q e m:Nat} (hq:0<q) (he:m=q*e):(m:Int)/(q:Int)=(e:Int):=by
 have h:((q*e:Nat):Int)=(q:Int)*(e:Int):=Int.natCast_mul q e
 rw[he,h]
 exact Int.mul_ediv_cancel_left _ (by omega)
theorem item_wrap {k e o:Nat} (ho:o=k*e) (h:o≤1000000):IntKind.i64.wrap ((k:Int)*(e:Int))=(o:Int):=by
 have h2:((k*e:Nat):Int)=(k:Int)*(e:Int):=Int.natCast_mul k e
 rw[←h2,←ho]
 exact IntWalk.i64_in _ (by omega)
end Go.Proofs.YtbijncndjlmmdaaGreatDoor
namespace Go.Proofs
set_option linter.unusedVariables false
set_option linter.unusedSimpArgs false
open Go.Shelf
def Tryz.laysC174_ren:Go.Shelf.Ren:=⟨fun| 174=>235 | 247=>257 | 245=>258 | 287=>275 | 279=>276 | 280=>277 | 281=>278 | 282=>279 | 321=>295 | 322=>296 | 316=>297 | 171=>155 | 205=>298 | 243=>190 | 246=>163 | 283=>198 | 284=>199 | 285=>200 | 286=>201 | 129=>224 | 317=>223 | 318=>225 | 319=>226 | 320=>227 | 337=>254 | 338=>255 |n=>n,fun| 9=>9 | 3=>3 | 2=>2 | 75=>213 | 85=>214 | 4=>4 | 167=>237 | 5=>5 | 53=>172 | 175=>238 | 46=>167 | 168=>240 | 37=>175 | 0=>0 | 210=>255 | 21=>21 | 127=>269 | 145=>272 | 143=>270 | 171=>171 | 173=>176 | 212=>205 | 51=>195 | 20=>20 | 213=>206 | 232=>235 | 233=>236 | 80=>95 |n=>n,fun| 15=>6 | 16=>7 | 17=>2 | 18=>3 | 19=>4 |n=>n⟩
theorem Tryz.laysC174:Go.Proofs.LaysC.n174 Tryz.prog Tryz.laysC174_ren:={
 mixed:=by kernel_rfl
 f129:=Tryz.func224.trans (congrArg some (by kernel_rfl))
 f171:=Tryz.func155.trans (congrArg some (by kernel_rfl))
 f174:=Tryz.func235.trans (congrArg some (by kernel_rfl))
 f205:=Tryz.func298.trans (congrArg some (by kernel_rfl))
 f243:=Tryz.func190.trans (congrArg some (by kernel_rfl))
 f245:=Tryz.func258.trans (congrArg some (by kernel_rfl))
 f246:=Tryz.func163.trans (congrArg some (by kernel_rfl))
 f247:=Tryz.func257.trans (congrArg some (by kernel_rfl))
 f279:=Tryz.func276.trans (congrArg some (by kernel_rfl))
 f280:=Tryz.func277.trans (congrArg some (by kernel_rfl))
 f281:=Tryz.func278.trans (congrArg some (by kernel_rfl))
 f282:=Tryz.func279.trans (congrArg some (by kernel_rfl))
 f283:=Tryz.func198.trans (congrArg some (by kernel_rfl))
 f284:=Tryz.func199.trans (congrArg some (by kernel_rfl))
 f285:=Tryz.func200.trans (congrArg some (by kernel_rfl))
 f286:=Tryz.func201.trans (congrArg some (by kernel_rfl))
 f287:=Tryz.func275.trans (congrArg some (by kernel_rfl))
 f316:=Tryz.func297.trans (congrArg some (by kernel_rfl))
 f317:=Tryz.func223.trans (congrArg some (by kernel_rfl))
 f318:=Tryz.func225.trans (congrArg some (by kernel_rfl))
 f319:=Tryz.func226.trans (congrArg some (by kernel_rfl))
 f320:=Tryz.func227.trans (congrArg some (by kernel_rfl))
 f321:=Tryz.func295.trans (congrArg some (by kernel_rfl))
 f322:=Tryz.func296.trans (congrArg some (by kernel_rfl))
 f337:=Tryz.func254.trans (congrArg some (by kernel_rfl))
 f338:=Tryz.func255.trans (congrArg some (by kernel_rfl))
 t0:=Tryz.underlying0
 a0:=Tryz.isAgg0
 z0:=Tryz.sizeOf0
 v0:=Tryz.zeroValue0
 t2:=Tryz.underlying2
 a2:=Tryz.isAgg2
 z2:=Tryz.sizeOf2
 v2:=Tryz.zeroValue2
 t3:=Tryz.underlying3
 a3:=Tryz.isAgg3
 z3:=Tryz.sizeOf3
 v3:=Tryz.zeroValue3
 t4:=Tryz.underlying4
 a4:=Tryz.isAgg4
 z4:=Tryz.sizeOf4
 v4:=Tryz.zeroValue4
 t5:=Tryz.underlying5
 a5:=Tryz.isAgg5
 z5:=Tryz.sizeOf5
 v5:=Tryz.zeroValue5
 t9:=Tryz.underlying9
 a9:=Tryz.isAgg9
 z9:=Tryz.sizeOf9
 v9:=Tryz.zeroValue9
 t20:=Tryz.underlying20
 a20:=Tryz.isAgg20
 z20:=Tryz.sizeOf20
 v20:=Tryz.zeroValue20
 t21:=Tryz.underlying21
 a21:=Tryz.isAgg21
 z21:=Tryz.sizeOf21
 v21:=Tryz.zeroValue21
 t37:=Tryz.underlying175
 a37:=Tryz.isAgg175
 z37:=Tryz.sizeOf175
 v37:=Tryz.zeroValue175
 t46:=Tryz.underlying167
 a46:=Tryz.isAgg167
 z46:=Tryz.sizeOf167
 v46:=Tryz.zeroValue167
 t51:=Tryz.underlying195
 a51:=Tryz.isAgg195
 z51:=Tryz.sizeOf195
 v51:=Tryz.zeroValue195
 t53:=Tryz.underlying172
 a53:=Tryz.isAgg172
 z53:=Tryz.sizeOf172
 v53:=Tryz.zeroValue172
 t75:=Tryz.underlying213
 a75:=Tryz.isAgg213
 z75:=Tryz.sizeOf213
 v75:=Tryz.zeroValue213
 t85:=Tryz.underlying214
 a85:=Tryz.isAgg214
 z85:=Tryz.sizeOf214
 v85:=Tryz.zeroValue214
 t127:=Tryz.underlying269
 a127:=Tryz.isAgg269
 z127:=Tryz.sizeOf269
 v127:=Tryz.zeroValue269
 t143:=Tryz.underlying270
 a143:=Tryz.isAgg270
 z143:=Tryz.sizeOf270
 v143:=Tryz.zeroValue270
 t145:=Tryz.underlying272
 a145:=Tryz.isAgg272
 z145:=Tryz.sizeOf272
 v145:=Tryz.zeroValue272
 t167:=Tryz.underlying237
 a167:=Tryz.isAgg237
 z167:=Tryz.sizeOf237
 v167:=Tryz.zeroValue237
 t168:=Tryz.underlying240
 a168:=Tryz.isAgg240
 z168:=Tryz.sizeOf240
 v168:=Tryz.zeroValue240
 t171:=Tryz.underlying171
 a171:=Tryz.isAgg171
 z171:=Tryz.sizeOf171
 v171:=Tryz.zeroValue171
 t173:=Tryz.underlying176
 a173:=Tryz.isAgg176
 z173:=Tryz.sizeOf176
 v173:=Tryz.zeroValue176
 t175:=Tryz.underlying238
 a175:=Tryz.isAgg238
 z175:=Tryz.sizeOf238
 v175:=Tryz.zeroValue238
 t210:=Tryz.underlying255
 a210:=Tryz.isAgg255
 z210:=Tryz.sizeOf255
 v210:=Tryz.zeroValue255
 t212:=Tryz.underlying205
 a212:=Tryz.isAgg205
 z212:=Tryz.sizeOf205
 v212:=Tryz.zeroValue205
 t213:=Tryz.underlying206
 a213:=Tryz.isAgg206
 z213:=Tryz.sizeOf206
 t232:=Tryz.underlying235
 a232:=Tryz.isAgg235
 z232:=Tryz.sizeOf235
 v232:=Tryz.zeroValue235
 t233:=Tryz.underlying236
 a233:=Tryz.isAgg236
 z233:=Tryz.sizeOf236
 v233:=Tryz.zeroValue236
 g15:=by kernel_rfl
 g16:=by kernel_rfl
 g17:=by kernel_rfl
 g18:=by kernel_rfl
 g19:=by kernel_rfl
 t80:=Tryz.underlying95
 a80:=Tryz.isAgg95
 z80:=Tryz.sizeOf95
 v80:=Tryz.zeroValue95
 i0:=by kernel_rfl
 i2:=by kernel_rfl
 i3:=by kernel_rfl
 i4:=by kernel_rfl
 i5:=by kernel_rfl
 i9:=by kernel_rfl
 i20:=by kernel_rfl
 i21:=by kernel_rfl
 i37:=by kernel_rfl
 i46:=by kernel_rfl
 i51:=by kernel_rfl
 i53:=by kernel_rfl
 i75:=by kernel_rfl
 i80:=by kernel_rfl
 i85:=by kernel_rfl
 i127:=by kernel_rfl
 i143:=by kernel_rfl
 i145:=by kernel_rfl
 i167:=by kernel_rfl
 i168:=by kernel_rfl
 i171:=by kernel_rfl
 i173:=by kernel_rfl
 i175:=by kernel_rfl
 i210:=by kernel_rfl
 i212:=by kernel_rfl
 i232:=by kernel_rfl
 i233:=by kernel_rfl
 m15:=by kernel_rfl
 m16:=by kernel_rfl
 m17:=by kernel_rfl
 m18:=by kernel_rfl
 m19:=by kernel_rfl
 c0:=by kernel_rfl
 c2:=by kernel_rfl
 c3:=by kernel_rfl
 c4:=by kernel_rfl
 c5:=by kernel_rfl
 c9:=by kernel_rfl
 c20:=by kernel_rfl
 c21:=by kernel_rfl
 c37:=by kernel_rfl
 c46:=by kernel_rfl
 c51:=by kernel_rfl
 c53:=by kernel_rfl
 c75:=by kernel_rfl
 c80:=by kernel_rfl
 c85:=by kernel_rfl
 c127:=by kernel_rfl
 c143:=by kernel_rfl
 c145:=by kernel_rfl
 c167:=by kernel_rfl
 c168:=by kernel_rfl
 c171:=by kernel_rfl
 c173:=by kernel_rfl
 c175:=by kernel_rfl
 c210:=by kernel_rfl
 c212:=by kernel_rfl
 c213:=by kernel_rfl
 c232:=by kernel_rfl
 c233:=by kernel_rfl}
open Go.RowKit in
theorem Tryz.strconv_ParseInt_10_at64_ok (s:ByteArray) (hmax:s.size≤9223372036854775806) (v:Int) (h:Lib.parseIntB 64 s.data.toList=.ok v) (w:World):
 Calls Tryz.prog 235 #[.string s,.int .i64 10,.int .i64 64] w fun e w'=>e=.returned (.tuple #[.int .i64 v,.nilIface])∧(w'=w∨∃t,w'=Lib.bytesWorld w 5 t):=Any.strconv_ParseInt_10_at64_ok Tryz.laysC174 s hmax v h w
open Go.RowKit in
theorem Tryz.strconv_ParseInt_10_at64_range (s:ByteArray) (hlim:s.size≤281474976710656) (h:Lib.parseIntB 64 s.data.toList=.range) (ev:Value) (w:World) (hv:w.cell? ⟨7,0,none⟩=some ev) (hev:ev=.nilIface∨∃te pe,ev=.iface te pe):
 Calls Tryz.prog 235 #[.string s,.int .i64 10,.int .i64 64] w fun e w'=>∃N,e=.returned (.tuple #[.int .i64 (Lib.intSat 64 s.data.toList),.iface 240 (.pointer (some ⟨N,0,none⟩))])∧w.heap.size≤N∧w'.heap[N]?=some (.cells #[.string ⟨#[80,97,114,115,101,73,110,116]⟩,.string s,ev] 255 (0,0))∧Below w.heap.size w w':=Any.strconv_ParseInt_10_at64_range Tryz.laysC174 s hlim h ev w hv hev
end Go.Proofs

import Derived.Test.YtcfbjdplhgdpfaaGreatDoorTao
import Derived.Shelf.Strconv.ParseIntPublic10
set_option maxHeartbeats 800000
set_option maxRecDepth 10000
namespace Go.Proofs
theorem yDn {P:Prop}(h:P:=by omega):P:=h
theorem zXn {P:Prop}(h:P:=by kernel_rfl):P:=h
abbrev zQ1:=@true_and
abbrev xV0:=@if_false
abbrev yX0:=@Go.World.cell?_setCell_other
abbrev yT0:=@List.getElem?_take_of_lt
abbrev yN0:=@List.length_eq_zero_iff
abbrev yF0:=@decide_eq_false
abbrev zY0:=@Array.getElem?_eq_some_iff
abbrev zG0:=@congrArg
abbrev xO:=@List.length_take
abbrev yV:=@List.take_of_length_le
abbrev yT:=@Go.World.block_lt_of_cell?
abbrev yL:=@List.getElem?_eq_getElem
abbrev yI:=@List.getD_eq_getElem?_getD
abbrev zZ:=@if_pos
abbrev zX:=@if_neg
abbrev zQ:=@Nat.le_refl
abbrev zH:=@Go.RowKit.Below.refl
abbrev zB:=@Go.Lib.hid
end Go.Proofs
namespace Go.Proofs.YtcfbjdplhgdpfaaGreatDoor
set_option linter.unusedVariables false
set_option linter.unusedSimpArgs false
noncomputable def orL (f:Nat→Int) (n:Nat):List Nat:=Classical.epsilon (Ord f n)
theorem yD4 {f:Nat→Int} {n:Nat} {l:List Nat} (h:Ord f n l):orL f n=l:=(Classical.epsilon_spec (p:=Ord f n) ⟨l,h⟩).one h
def yE4 (l:List Nat):List Int:=l.map fun i:Nat=>(i:Int)
def yF4 (l:List Int):List Nat:=l.map Int.toNat
noncomputable def upK (sg:Int):Option Ar→Option Ar×Int
 |none=>(none,1)
 |some v=>if v.1.length≠1 then(none,3)else(some ([(v.2.length:Int)],yE4 (orL (fun i=>sg*v.2.getD i 0) v.2.length)),0)
def whK:Option Ar→Option Ar×Int
 |none=>(none,1)
 |some v=>if v.1.length≠1 then(none,3)else if v.2.all zWd=false then(none,5)else if∃x∈v.2,x<0 then(none,5)else
  if 4096<(yF4 v.2).sum then(none,8)else(some ([((yF4 v.2).sum:Int)],yE4 (whS 0 (yF4 v.2))),0)
def unK:Option Ar→Option Ar×Int
 |none=>(none,1)
 |some v=>if v.1.length≠1 then(none,3)else(some ([((unS v.2).length:Int)],unS v.2),0)
def fdK:Option Ar→Option Ar→Option Ar×Int
 |some v,some w=>if v.1.length≠1 then(none,3)else(some (w.1,w.2.map fun x=>(fpS v.2 x:Int)),0)
 |_,_=>(none,1)
def plE (w:Ar) (many:Int):Int:=if w.2.all zWd=false then 5 else if∃x∈w.2,x<0∨many≤x then 6 else 0
def ixK:Option Ar→Option Ar→Option Ar×Int
 |some v,some w=>if v.1=[]then(none,3)else if plE w (v.1.getD 0 0)≠0 then(none,plE w (v.1.getD 0 0))else
  if szE (w.1++v.1.tail)≠0 then(none,szE (w.1++v.1.tail))else(some (w.1++v.1.tail,its v.2 (kI v.1) (yF4 w.2)),0)
 |_,_=>(none,1)
theorem yG4 {w:Ar} {many:Int} (h:plE w many=0):w.2.all zWd=true∧∀x∈w.2,0≤x∧x<many:=by
 unfold plE at h;split at h
 · cases h
 · rename_i h1
   split at h
   · cases h
   · rename_i h2
     refine⟨by simpa using h1,fun x hx=> ?_⟩;by_cases hc:x<0∨many≤x
     · exact absurd ⟨x,hx,hc⟩ h2
     · omega
theorem yH4 {l:List Int} (h:∀x∈l,0≤x) {k:Nat} (hk:k<l.length):((yF4 l).getD k 0:Int)=l.getD k 0:=by
 have hx:=h l[k] (List.getElem_mem _);simp only[yF4,yI,List.getElem?_map,yL hk,Option.map_some,Option.getD_some];omega
theorem yI4 {l:List Int} {n:Nat} (h:∀x∈l,0≤x∧x<(n:Int)):∀i∈yF4 l,i<n:=by
 intro i hi;obtain⟨x,hx,rfl⟩:=List.mem_map.1 hi;have:=h x hx;omega
end Go.Proofs.YtcfbjdplhgdpfaaGreatDoor
namespace Go.Proofs.YtcfbjdplhgdpfaaGreatDoor
set_option linter.unusedVariables false
set_option linter.unusedSimpArgs false
open Go.RowKit
def St (W:World) (a:Option Addr) (n:Nat) (l:List ByteArray):Prop:=
 l.length=n∧(0<n→∃b off,a=some ⟨b,off,none⟩∧∀j,j<n→W.cell? ⟨b,off+j,none⟩=some (.string (l.getD j ByteArray.empty)))
theorem St.below {W W':World} {a:Option Addr} {n:Nat} {l:List ByteArray} (h:St W a n l) (hb:Below W.heap.size W W'):St W' a n l:=by
 refine⟨h.1,fun hn=> ?_⟩;obtain⟨b,off,e,hc⟩:=h.2 hn;exact⟨b,off,e,fun j hj=>(hb.cell (show(⟨b,off+j,none⟩:Addr).block<W.heap.size from yT W _ (hc j hj))).trans (hc j hj)⟩
theorem St.nil (W:World) (a:Option Addr):St W a 0 []:=⟨rfl,fun h=>by omega⟩
structure Vl (W:World) (a:Option Addr) (n:Nat) (b:Option Addr) (m:Nat) (l:List Int) (es:List ByteArray):Prop where
 s:Sl W a n l
 t:St W b m es
 mm:m≤9223372036854775807
structure Cp (n c m d:Nat):Prop where
 nc:n≤c
 cm:c≤maxLen
 md:m≤d
 dm:d≤maxLen
section
variable {W W':World} {a b:Option Addr} {g n c m d:Nat} {l:List Int} {es:List ByteArray}
theorem Vl.below (h:Vl W a n b m l es) (hb:Below W.heap.size W W'):Vl W' a n b m l es:=⟨h.s.below hb,h.t.below hb,h.mm⟩
theorem Vl.none_ (W:World):Vl W none 0 none 0 [] []:=⟨Sl.nil _ _,St.nil _ _,by omega⟩
def Bx (W:World) (g:Nat) (a:Option Addr) (n c:Nat) (b:Option Addr) (m d:Nat):Prop:=W.heap[g]?=some (.cells #[.slice a n c,.slice b m d] 25 (0,0))
theorem Bx.lt (h:Bx W g a n c b m d):g<W.heap.size:=(zY0.1 h).1
theorem Bx.c0 (h:Bx W g a n c b m d):W.cell? ⟨g,0,none⟩=some (.slice a n c):=by rw[cell_of_row _ _ 0 _ _ _ h];rfl
theorem Bx.c1 (h:Bx W g a n c b m d):W.cell? ⟨g,1,none⟩=some (.slice b m d):=by rw[cell_of_row _ _ 1 _ _ _ h];rfl
theorem Bx.f (h:Bx W g a n c b m d) (i:Nat):W.frozen? ⟨g,i,none⟩=false:=frozen_of_row _ _ i _ _ h
theorem Bx.below (h:Bx W g a n c b m d) {B:Nat} (hb:Below B W W') (hg:g<B):Bx W' g a n c b m d:=(hb.block g hg).trans h
theorem Bx.alloc (h:Bx W g a n c b m d) (o:Obj):Bx (W.alloc o) g a n c b m d:=(Below.heap_alloc W o g h.lt).trans h
theorem Bx.new (W:World) (a:Option Addr) (n c:Nat) (b:Option Addr) (m d:Nat):Bx (W.alloc (.cells #[.slice a n c,.slice b m d] 25)) W.heap.size a n c b m d:=heap_alloc_new W _
theorem Bx.set (h:Bx W g a n c b m d) (a':Option Addr) (n' c':Nat) (b':Option Addr) (m' d':Nat):Bx ((W.setCell ⟨g,0,none⟩ (.slice a' n' c')).setCell ⟨g,1,none⟩ (.slice b' m' d')) g a' n' c' b' m' d':=by
 unfold Bx at h ⊢;simp[World.setCell,Array.getElem?_modify,h]
theorem Bx.setOther (h:Bx W g a n c b m d) {p:Addr} (hp:g≠p.block) (u:Value):Bx (W.setCell p u) g a n c b m d:=(Below.heap_setCell W p u g hp).trans h
theorem Bx.cell_far (h:Bx W g a n c b m d) {p:Addr} {x:Value} (hp:W.cell? p=some x) (hx:∀a n c,x≠ .slice a n c) (u v:Value):((W.setCell ⟨g,0,none⟩ u).setCell ⟨g,1,none⟩ v).cell? p=some x:=by
 have p0:p≠⟨g,0,none⟩:=by
  rintro rfl;rw[h.c0]at hp;injection hp with hp
  exact hx _ _ _ hp.symm
 have p1:p≠⟨g,1,none⟩:=by
  rintro rfl;rw[h.c1]at hp;injection hp with hp
  exact hx _ _ _ hp.symm
 rw[yX0 _ _ _ _ p1.symm,yX0 _ _ _ _ p0.symm,hp]
theorem Bx.sl (h:Bx W g a n c b m d) {a':Option Addr} {n':Nat} (hs:Sl W a' n' l) (u v:Value):Sl ((W.setCell ⟨g,0,none⟩ u).setCell ⟨g,1,none⟩ v) a' n' l:=by
 refine⟨hs.1,fun hn=> ?_⟩;obtain⟨bb,off,e,hc⟩:=hs.2 hn;exact⟨bb,off,e,fun j hj=>h.cell_far (hc j hj) (by intro _ _ _ hh;cases hh) u v⟩
theorem Bx.st (h:Bx W g a n c b m d) {a':Option Addr} {n':Nat} (hs:St W a' n' es) (u v:Value):St ((W.setCell ⟨g,0,none⟩ u).setCell ⟨g,1,none⟩ v) a' n' es:=by
 refine⟨hs.1,fun hn=> ?_⟩;obtain⟨bb,off,e,hc⟩:=hs.2 hn;exact⟨bb,off,e,fun j hj=>h.cell_far (hc j hj) (by intro _ _ _ hh;cases hh) u v⟩
theorem yJ4 {B:Nat} (hb:Below B W W') (hg:B≤g) (u v:Value):Below B W ((W'.setCell ⟨g,0,none⟩ u).setCell ⟨g,1,none⟩ v):=(hb.setCell hg u).setCell hg v
end
theorem yK4 (a1 a2:Option Addr) (n c m d:Nat) (l k:List ByteArray) (W:World) (h1:St W a1 n l) (h2:St W a2 m k) (hn:n≤9223372036854775807) (hm:m≤9223372036854775807):
 Calls Tryz.prog 42 #[.slice a1 n c,.slice a2 m d] W fun x W'=>x=.returned (.bool (decide (l=k)))∧Below W.heap.size W W':=by
 by_cases hnm:n=m
 · subst hnm
   by_cases h0:n=0
   · subst h0
     have e1:=yN0.1 h1.1;have e2:=yN0.1 h2.1;subst e1 e2;refine(Tryz.slices_Equal_string_empty a1 a2 c 0 d W (by decide)).mono ?_;rintro x w ⟨rfl,rfl⟩;exact⟨rfl,zH _ _⟩
   · obtain⟨b1,o1,rfl,hc1⟩:=h1.2 yDn
     obtain⟨b2,o2,rfl,hc2⟩:=h2.2 yDn;refine(Tryz.slices_Equal_string b1 o1 n c b2 o2 n d l k W (by rw[h1.1];exact zQ _) (by rw[h2.1];exact zQ _) hn hm (fun j hj=>hc1 j (by rw[←h1.1];exact hj)) (fun j hj=>hc2 j (by rw[←h2.1];exact hj))).mono ?_;rintro x w ⟨rfl,q,rfl⟩;refine⟨?_,⟨rfl,rfl,rfl,zQ _,fun _ _=>rfl⟩⟩;rw[yV (by rw[h1.1];exact zQ _),yV (by rw[h2.1];exact zQ _)]
 · refine(Tryz.slices_Equal_string_lens a1 a2 n c m d W hnm).mono ?_
   rintro x w ⟨rfl,rfl⟩;refine⟨?_,zH _ _⟩;have:decide (l=k)=false:=yF0 (by rintro rfl;exact hnm (h1.1.symm.trans h2.1));rw[this]
def yL4 (l:List Int) (es:List ByteArray):Bool:=decide (szE l=0)&&decide ((es.length:Int)=szV l)&&es.all fun s=>yLe s.data.toList
structure MayVl (l:List Int) (es:List ByteArray):Prop where
 e:szE l=0
 len:(es.length:Int)=pr l
 all:∀j,j<es.length→yLe (es.getD j ByteArray.empty).data.toList=true
theorem yM4 {p:ByteArray→Bool} {es:List ByteArray}:es.all p=true↔∀j,j<es.length→p (es.getD j ByteArray.empty)=true:=by
 rw[List.all_eq_true];constructor
 · intro h j hj
   rw[yI,yL hj];exact h _ (List.getElem_mem hj)
 · intro h x hx
   obtain⟨j,hj,rfl⟩:=List.getElem_of_mem hx;have:=h j hj;rwa [yI,yL hj]at this
theorem yN4 {l:List Int} {es:List ByteArray}:yL4 l es=true↔MayVl l es:=by
 unfold yL4;rw[Bool.and_eq_true,Bool.and_eq_true,decide_eq_true_eq,decide_eq_true_eq,yM4];constructor
 · rintro⟨⟨h1,h2⟩,h3⟩
   exact⟨h1,by rw[h2,yD9 h1],h3⟩
 · rintro⟨h1,h2,h3⟩
   exact⟨⟨h1,by rw[h2,yD9 h1]⟩,h3⟩
theorem yO4 {l:List Int} {es:List ByteArray} (h:szE l≠0):yL4 l es=false:=by
 unfold yL4;rw[yF0 h];rfl
theorem yP4 {l:List Int} {es:List ByteArray} (h:(es.length:Int)≠szV l):yL4 l es=false:=by
 unfold yL4;rw[yF0 h,Bool.and_false];rfl
theorem yQ4 {l:List Int} {es:List ByteArray} {j:Nat} (hj:j<es.length) (h:yLe (es.getD j ByteArray.empty).data.toList=false):yL4 l es=false:=by
 rw[←Bool.not_eq_true];intro hh;rw[(yN4.1 hh).all j hj]at h;cases h
def yR4 (l:List Int) (es:List ByteArray):Bool:=(es.take 301).all (fun s=>decide (s.size≤120))&&(decide (es.length≤300)&&decide (l.length≤20))
theorem yS4 {l:List Int} {es:List ByteArray} {j:Nat} (hj:j<es.length) (h3:j<301) (h:120<(es.getD j ByteArray.empty).size):yR4 l es=false:=by
 have e:(es.take 301).all (fun s=>decide (s.size≤120))=false:=by
  rw[←Bool.not_eq_true];intro hh;have:=yM4.1 hh j (by rw[xO];omega);rw[yI,yT0 h3,←yI]at this;have:=of_decide_eq_true this;omega
 unfold yR4;rw[e];rfl
theorem yT4 {l:List Int} {es:List ByteArray} (h:∀j,j<es.length→j<301→(es.getD j ByteArray.empty).size≤120):yR4 l es=(decide (es.length≤300)&&decide (l.length≤20)):=by
 have e:(es.take 301).all (fun s=>decide (s.size≤120))=true:=by
  rw[yM4];intro j hj;rw[xO]at hj;rw[yI,yT0 yDn,←yI];exact decide_eq_true (h j yDn yDn)
 unfold yR4;rw[e];rfl
def yU4 (es:List ByteArray) (k i:Nat):List ByteArray:=(es.drop (i*k)).take k
theorem yV4 {es:List ByteArray} {k i:Nat} (h:(i+1)*k≤es.length):(yU4 es k i).length=k:=by
 unfold yU4;rw[Nat.add_mul,Nat.one_mul]at h;rw[xO,List.length_drop];omega
theorem yW4 {es:List ByteArray} {k i j:Nat} (hj:j<k):(yU4 es k i).getD j ByteArray.empty=es.getD (i*k+j) ByteArray.empty:=by
 unfold yU4;simp only[yI,yT0 hj,List.getElem?_drop]
end Go.Proofs.YtcfbjdplhgdpfaaGreatDoor
namespace Go.Proofs.YtcfbjdplhgdpfaaGreatDoor
set_option linter.unusedVariables false
set_option linter.unusedSimpArgs false
open Go.RowKit
def yX4 (b:Bool) (W:World) (e:Ending) (W':World):Prop:=e=.returned (.bool b)∧Below W.heap.size W W'
theorem Bx.two (W:World) (o:Obj) (a:Option Addr) (n c:Nat) (b:Option Addr) (m d:Nat):Bx ((W.alloc o).alloc (.cells #[.slice a n c,.slice b m d] 25)) (W.heap.size+1) a n c b m d:=by
 have:=Bx.new (W.alloc o) a n c b m d;rwa [show(W.alloc o).heap.size=W.heap.size+1 by simp]at this
theorem yY4 {a1 b1 a2 b2:Option Addr} {n1 c1 m1 d1 n2 c2 m2 d2:Nat} {l k:List Int} {es fs:List ByteArray} (W:World) (h1:Vl W a1 n1 b1 m1 l es) (h2:Vl W a2 n2 b2 m2 k fs) (q1:n1≤1000000) (q2:n2≤1000000):
 Calls Tryz.prog 15 #[.agg #[.slice a1 n1 c1,.slice b1 m1 d1],.agg #[.slice a2 n2 c2,.slice b2 m2 d2]] W (yX4 ((l==k)&&decide (es=fs)) W):=by
 have K1:=zB (fun w (hb:Below W.heap.size W w)=>yP9 a1 a2 n1 c1 n2 c2 l k w (h1.s.below hb) (h2.s.below hb) q1 q2);have K2:=zB (fun w (hb:Below W.heap.size W w)=>yK4 b1 b2 m1 d1 m2 d2 es fs w (h1.t.below hb) (h2.t.below hb) h1.mm h2.mm);clear h1 h2 q1 q2;generalize (l==k)=p at K1 ⊢;generalize decide (es=fs)=q at K2 ⊢;go_in;go_wp2_with fail;have hA:=(Bx.new W a1 n1 c1 b1 m1 d1).alloc (.cells #[.slice a2 n2 c2,.slice b2 m2 d2] 25);have hB:=Bx.two W (.cells #[.slice a1 n1 c1,.slice b1 m1 d1] 25) a2 n2 c2 b2 m2 d2;have hb0:Below W.heap.size W ((W.alloc (.cells #[.slice a1 n1 c1,.slice b1 m1 d1] 25)).alloc (.cells #[.slice a2 n2 c2,.slice b2 m2 d2] 25)):=((zH _ _).alloc (zQ _) _).alloc (by simp) _;refine(K1.out _ hb0).mono ?_;rintro x w1 ⟨rfl,hb1⟩;have x1:=(hA.below hb1 hA.lt).c1;have x2:=(hB.below hb1 hB.lt).c1;have hb2:=hb0.trans (hb1.mono hb0.size);clear hA hB hb0 hb1;rcases Bool.eq_false_or_eq_true p with rfl|rfl
 · go_wp2_with fail
   refine(K2.out _ hb2).mono ?_;rintro x w3 ⟨rfl,hb3⟩;go_wp2_with fail;go_ret;exact⟨rfl,hb2.trans (hb3.mono hb2.size)⟩
 · go_wp2_with fail
   go_ret;exact⟨rfl,hb2⟩
theorem yZ4 {a b:Option Addr} {n c m d:Nat} {l:List Int} {es:List ByteArray} (W:World) (h:Vl W a n b m l es) (hz:∀j,j<m→(es.getD j ByteArray.empty).size≤maxLen):
 Calls Tryz.prog 16 #[.agg #[.slice a n c,.slice b m d]] W (yX4 (yL4 l es) W):=by
 have K1:=zB (fun w (hb:Below W.heap.size W w)=>yM9 a n c l w (h.s.below hb));have r2:=h.mm;have HT:=zB h.t;have HZ:=zB hz;clear h hz;have hb0:Below W.heap.size W (W.alloc (.cells #[.slice a n c,.slice b m d] 25)):=(zH _ _).alloc (zQ _) _;by_cases he:szE l=0
 · by_cases hm:(m:Int)=szV l
   · have hmv:∀(h:∀j,j<m→yLe (es.getD j ByteArray.empty).data.toList=true),yL4 l es=true:=fun h=>yN4.2 ⟨he,by rw[HT.out.1,hm,yD9 he],by rw[HT.out.1];exact h⟩
     have hmn:∀j,j<m→yLe (es.getD j ByteArray.empty).data.toList=false→yL4 l es=false:=fun j hj h=>yQ4 (by rw[HT.out.1];exact hj) h;have HM:=zB (And.intro hmv hmn);clear hmv hmn;rw[←hm,he]at K1;clear hm he;generalize yL4 l es=v at HM ⊢;go_in;go_wp2_with fail;refine(K1.out _ hb0).mono ?_;rintro x w1 ⟨rfl,rfl⟩;go_wp2_with fail;go_loop [25] (fun i=>∃k:Nat,i=.int .i64 k∧k≤m∧Hid (∀j,j<k→yLe (es.getD j ByteArray.empty).data.toList=true)) (fun i=>m-(intOf i).toNat)
     case atStart=>exact⟨0,rfl,by omega,zB fun j hj=>by omega⟩
     case round=>
      obtain⟨k,rfl,hk,HI⟩:=hrel;by_cases hlt:k<m
      · have e2:(k:Int)<(m:Int):=by omega
        obtain⟨bb,off,rfl,hc⟩:=HT.out.2 yDn;have hck:=(hb0.cell (p:=⟨bb,off+k,none⟩) (yT W _ (hc k hlt))).trans (hc k hlt);have hs:=HZ.out k hlt;clear hc;obtain⟨s,hse⟩:∃s,s=es.getD k ByteArray.empty:=⟨_,rfl⟩
        rw[←hse]at hck hs;have KM:=zB (fun w=>xBe s w hs);have HE:=zB hse;clear hse hs;cases hv:yLe s.data.toList
        · rw[hv]at KM
          obtain rfl:v=false:=HM.out.2 k hlt (by rw[←HE.out];exact hv);clear hv;go_wp2_with fail;refine(KM.out _).mono ?_;rintro x w2 ⟨rfl,rfl⟩;go_wp2_with fail;go_ret;exact⟨rfl,hb0⟩
        · rw[hv]at KM
          have HV:=zB hv;clear hv;go_wp2_with fail;refine(KM.out _).mono ?_;rintro x w2 ⟨rfl,rfl⟩;go_wp2_with fail;go_round
          case rel=>
           refine⟨k+1,by go_num,by omega,zB fun j hj=> ?_⟩;rcases Nat.lt_or_ge j k with h2|h2
           · exact HI.out j h2
           · rw[show j=k by omega,←HE.out];exact HV.out
          case measure=>simp[intOf];omega
      · have e2:¬(k:Int)<(m:Int):=by omega
        obtain rfl:v=true:=HM.out.1 fun j hj=>HI.out j yDn;go_wp2_with fail;go_ret;exact⟨rfl,hb0⟩
   · have hv:=yP4 (l:=l) (es:=es) (by rw[HT.out.1];exact hm)
     rw[hv];rw[he]at K1;clear hv he;generalize szV l=P at*;go_in;go_wp2_with fail;refine(K1.out _ hb0).mono ?_;rintro x w1 ⟨rfl,rfl⟩;go_wp2_with fail;go_ret;exact⟨rfl,hb0⟩
 · have hv:=yO4 (es:=es) he
   rw[hv];rw[yC9 he]at K1;clear hv;generalize szE l=E at*;have hE:(E != 0)=true:=by simpa using he
   go_in;go_wp2_with fail;refine(K1.out _ hb0).mono ?_;rintro x w1 ⟨rfl,rfl⟩;go_wp2_with fail
   all_goals
    go_ret;exact⟨rfl,hb0⟩
theorem xA4 {a b:Option Addr} {n c m d:Nat} {l:List Int} {es:List ByteArray} (W:World) (h:Vl W a n b m l es) (hn:n≤20) (hc:n≤c) (hc2:c≤maxLen):
 Calls Tryz.prog 96 #[.agg #[.slice a n c,.slice b m d]] W (zE7 (itV l) W):=by
 have K1:=zB (fun w (hb:Below W.heap.size W w)=>yY9 a n c l w (h.s.below hb) hn hc hc2);clear h hc hc2;generalize itV l=v at K1 ⊢;go_in;go_wp2_with fail;have hb0:Below W.heap.size W (W.alloc (.cells #[.slice a n c,.slice b m d] 25)):=(zH _ _).alloc (zQ _) _;refine(K1.out _ hb0).mono ?_;rintro x w1 ⟨a',n',c',rfl,hs,hn',hb1⟩;clear hs;go_wp2_with fail;go_ret;exact⟨rfl,hb0.trans (hb1.mono hb0.size)⟩
end Go.Proofs.YtcfbjdplhgdpfaaGreatDoor
namespace Go.Proofs.YtcfbjdplhgdpfaaGreatDoor
set_option linter.unusedVariables false
set_option linter.unusedSimpArgs false
open Go.RowKit
theorem xB4:(Tryz.prog.info? 3).map (fun i=>(i.zero,i.size,i.bytes))=some (some (.int .i64 0),1,8):=by kernel_rfl
theorem xC4:(Tryz.prog.info? 9).map (fun i=>(i.zero,i.size,i.bytes))=some (some (.string ⟨#[]⟩),1,16):=by kernel_rfl
def Sr (w:World) (g n:Nat) (F:Nat→ByteArray):Prop:=w.rowIs g 9 n (fun j=>Value.string (F j))
theorem Sr.made (w:World) (n:Nat):Sr (w.alloc (.cells (madeCells #[.string ⟨#[]⟩] n) 9)) w.heap.size n (fun _=>⟨#[]⟩):=World.rowIs_made w _ n _
theorem Sr.cell {w:World} {g n:Nat} {F:Nat→ByteArray} (h:Sr w g n F) {i:Nat} (hi:i<n):w.cell? ⟨g,i,none⟩=some (.string (F i)):=by
 obtain⟨c,hg,_,hc⟩:=h;rw[cell_of_row w g i c _ _ hg,hc i hi]
theorem Sr.lt {w:World} {g n:Nat} {F:Nat→ByteArray} (h:Sr w g n F):g<w.heap.size:=by
 obtain⟨c,hg,_,hc⟩:=h;exact(zY0.1 hg).1
theorem Sr.block {w w':World} {g n:Nat} {F:Nat→ByteArray} (h:Sr w g n F) (e:w'.heap[g]?=w.heap[g]?):Sr w' g n F:=by
 obtain⟨c,hg,h1,hc⟩:=h;exact⟨c,e.trans hg,h1,hc⟩
theorem Sr.below {w w':World} {g n:Nat} {F:Nat→ByteArray} (h:Sr w g n F) (hb:Below w.heap.size w w'):Sr w' g n F:=h.block (hb.block g h.lt)
theorem Sr.st {w:World} {g n:Nat} {F:Nat→ByteArray} (h:Sr w g n F) {l:List ByteArray} (hl:l.length=n) (he:∀j,j<n→F j=l.getD j ByteArray.empty):St w (some ⟨g,0,none⟩) n l:=
 ⟨hl,fun _=>⟨g,0,rfl,fun j hj=>by rw[Nat.zero_add,h.cell hj,he j hj]⟩⟩
theorem xD4 (n:Nat) (hn:n≤1000000) (w:World):
 (Instr.makeSlice 23 (.int .i64 (n:Int)) (.int .i64 (n:Int))).run Tryz.prog w=.ok (.slice (some ⟨w.heap.size,0,none⟩) n n) (w.alloc (.cells (madeCells #[.string ⟨#[]⟩] n) 9)):=
 run_make_row' 23 9 _ 16 Tryz.underlying23 xC4 rfl _ _ n yDn yDn w
theorem xE4 {q e m:Nat} (hq:0<q) (he:m=q*e):(m:Int)/(q:Int)=(e:Int):=by
 have h:((q*e:Nat):Int)=(q:Int)*(e:Int):=Int.natCast_mul q e;rw[he,h];exact Int.mul_ediv_cancel_left _ yDn
theorem xF4 {k e o:Nat} (ho:o=k*e) (h:o≤1000000):IntKind.i64.wrap ((k:Int)*(e:Int))=(o:Int):=by
 have h2:((k*e:Nat):Int)=(k:Int)*(e:Int):=Int.natCast_mul k e;rw[←h2,←ho];exact IntWalk.i64_in _ yDn
end Go.Proofs.YtcfbjdplhgdpfaaGreatDoor
namespace Go.Proofs
set_option linter.unusedVariables false
set_option linter.unusedSimpArgs false
open Go.Shelf
def Tryz.laysC174_ren:Go.Shelf.Ren:=⟨fun| 174=>193 | 247=>215 | 245=>216 | 287=>233 | 279=>234 | 280=>235 | 281=>236 | 282=>237 | 321=>253 | 322=>254 | 316=>255 | 171=>95 | 205=>256 | 243=>137 | 246=>135 | 283=>165 | 284=>166 | 285=>167 | 286=>168 | 129=>189 | 317=>188 | 318=>190 | 319=>191 | 320=>192 | 337=>213 | 338=>214 |n=>n,fun| 9=>9 | 3=>3 | 2=>2 | 75=>189 | 85=>190 | 4=>4 | 167=>213 | 5=>5 | 53=>153 | 175=>214 | 46=>131 | 168=>216 | 37=>137 | 0=>0 | 210=>230 | 21=>21 | 127=>244 | 145=>247 | 143=>245 | 171=>152 | 173=>156 | 212=>184 | 51=>165 | 20=>20 | 213=>185 | 232=>211 | 233=>212 | 80=>60 |n=>n,fun| 15=>6 | 16=>7 | 17=>2 | 18=>3 | 19=>4 |n=>n⟩
theorem Tryz.laysC174:Go.Proofs.LaysC.n174 Tryz.prog Tryz.laysC174_ren:={
 mixed:=by kernel_rfl
 f129:=Tryz.func189.trans (zG0 some zXn)
 f171:=Tryz.func95.trans (zG0 some zXn)
 f174:=Tryz.func193.trans (zG0 some zXn)
 f205:=Tryz.func256.trans (zG0 some zXn)
 f243:=Tryz.func137.trans (zG0 some zXn)
 f245:=Tryz.func216.trans (zG0 some zXn)
 f246:=Tryz.func135.trans (zG0 some zXn)
 f247:=Tryz.func215.trans (zG0 some zXn)
 f279:=Tryz.func234.trans (zG0 some zXn)
 f280:=Tryz.func235.trans (zG0 some zXn)
 f281:=Tryz.func236.trans (zG0 some zXn)
 f282:=Tryz.func237.trans (zG0 some zXn)
 f283:=Tryz.func165.trans (zG0 some zXn)
 f284:=Tryz.func166.trans (zG0 some zXn)
 f285:=Tryz.func167.trans (zG0 some zXn)
 f286:=Tryz.func168.trans (zG0 some zXn)
 f287:=Tryz.func233.trans (zG0 some zXn)
 f316:=Tryz.func255.trans (zG0 some zXn)
 f317:=Tryz.func188.trans (zG0 some zXn)
 f318:=Tryz.func190.trans (zG0 some zXn)
 f319:=Tryz.func191.trans (zG0 some zXn)
 f320:=Tryz.func192.trans (zG0 some zXn)
 f321:=Tryz.func253.trans (zG0 some zXn)
 f322:=Tryz.func254.trans (zG0 some zXn)
 f337:=Tryz.func213.trans (zG0 some zXn)
 f338:=Tryz.func214.trans (zG0 some zXn)
 t0:=Tryz.underlying0
 a0:=Tryz.isAgg0
 z0:=Tryz.sizeOf0
 v0:=Tryz.zeroValue0
 t2:=Tryz.underlying2
 a2:=Tryz.isAgg2
 z2:=Tryz.sizeOf2
 v2:=Tryz.zeroValue2
 t3:=Tryz.underlying3
 a3:=Tryz.isAgg3
 z3:=Tryz.sizeOf3
 v3:=Tryz.zeroValue3
 t4:=Tryz.underlying4
 a4:=Tryz.isAgg4
 z4:=Tryz.sizeOf4
 v4:=Tryz.zeroValue4
 t5:=Tryz.underlying5
 a5:=Tryz.isAgg5
 z5:=Tryz.sizeOf5
 v5:=Tryz.zeroValue5
 t9:=Tryz.underlying9
 a9:=Tryz.isAgg9
 z9:=Tryz.sizeOf9
 v9:=Tryz.zeroValue9
 t20:=Tryz.underlying20
 a20:=Tryz.isAgg20
 z20:=Tryz.sizeOf20
 v20:=Tryz.zeroValue20
 t21:=Tryz.underlying21
 a21:=Tryz.isAgg21
 z21:=Tryz.sizeOf21
 v21:=Tryz.zeroValue21
 t37:=Tryz.underlying137
 a37:=Tryz.isAgg137
 z37:=Tryz.sizeOf137
 v37:=Tryz.zeroValue137
 t46:=Tryz.underlying131
 a46:=Tryz.isAgg131
 z46:=Tryz.sizeOf131
 v46:=Tryz.zeroValue131
 t51:=Tryz.underlying165
 a51:=Tryz.isAgg165
 z51:=Tryz.sizeOf165
 v51:=Tryz.zeroValue165
 t53:=Tryz.underlying153
 a53:=Tryz.isAgg153
 z53:=Tryz.sizeOf153
 v53:=Tryz.zeroValue153
 t75:=Tryz.underlying189
 a75:=Tryz.isAgg189
 z75:=Tryz.sizeOf189
 v75:=Tryz.zeroValue189
 t85:=Tryz.underlying190
 a85:=Tryz.isAgg190
 z85:=Tryz.sizeOf190
 v85:=Tryz.zeroValue190
 t127:=Tryz.underlying244
 a127:=Tryz.isAgg244
 z127:=Tryz.sizeOf244
 v127:=Tryz.zeroValue244
 t143:=Tryz.underlying245
 a143:=Tryz.isAgg245
 z143:=Tryz.sizeOf245
 v143:=Tryz.zeroValue245
 t145:=Tryz.underlying247
 a145:=Tryz.isAgg247
 z145:=Tryz.sizeOf247
 v145:=Tryz.zeroValue247
 t167:=Tryz.underlying213
 a167:=Tryz.isAgg213
 z167:=Tryz.sizeOf213
 v167:=Tryz.zeroValue213
 t168:=Tryz.underlying216
 a168:=Tryz.isAgg216
 z168:=Tryz.sizeOf216
 v168:=Tryz.zeroValue216
 t171:=Tryz.underlying152
 a171:=Tryz.isAgg152
 z171:=Tryz.sizeOf152
 v171:=Tryz.zeroValue152
 t173:=Tryz.underlying156
 a173:=Tryz.isAgg156
 z173:=Tryz.sizeOf156
 v173:=Tryz.zeroValue156
 t175:=Tryz.underlying214
 a175:=Tryz.isAgg214
 z175:=Tryz.sizeOf214
 v175:=Tryz.zeroValue214
 t210:=Tryz.underlying230
 a210:=Tryz.isAgg230
 z210:=Tryz.sizeOf230
 v210:=Tryz.zeroValue230
 t212:=Tryz.underlying184
 a212:=Tryz.isAgg184
 z212:=Tryz.sizeOf184
 v212:=Tryz.zeroValue184
 t213:=Tryz.underlying185
 a213:=Tryz.isAgg185
 z213:=Tryz.sizeOf185
 t232:=Tryz.underlying211
 a232:=Tryz.isAgg211
 z232:=Tryz.sizeOf211
 v232:=Tryz.zeroValue211
 t233:=Tryz.underlying212
 a233:=Tryz.isAgg212
 z233:=Tryz.sizeOf212
 v233:=Tryz.zeroValue212
 g15:=by kernel_rfl
 g16:=by kernel_rfl
 g17:=by kernel_rfl
 g18:=by kernel_rfl
 g19:=by kernel_rfl
 t80:=Tryz.underlying60
 a80:=Tryz.isAgg60
 z80:=Tryz.sizeOf60
 v80:=Tryz.zeroValue60
 i0:=by kernel_rfl
 i2:=by kernel_rfl
 i3:=by kernel_rfl
 i4:=by kernel_rfl
 i5:=by kernel_rfl
 i9:=by kernel_rfl
 i20:=by kernel_rfl
 i21:=by kernel_rfl
 i37:=by kernel_rfl
 i46:=by kernel_rfl
 i51:=by kernel_rfl
 i53:=by kernel_rfl
 i75:=by kernel_rfl
 i80:=by kernel_rfl
 i85:=by kernel_rfl
 i127:=by kernel_rfl
 i143:=by kernel_rfl
 i145:=by kernel_rfl
 i167:=by kernel_rfl
 i168:=by kernel_rfl
 i171:=by kernel_rfl
 i173:=by kernel_rfl
 i175:=by kernel_rfl
 i210:=by kernel_rfl
 i212:=by kernel_rfl
 i232:=by kernel_rfl
 i233:=by kernel_rfl
 m15:=by kernel_rfl
 m16:=by kernel_rfl
 m17:=by kernel_rfl
 m18:=by kernel_rfl
 m19:=by kernel_rfl
 c0:=by kernel_rfl
 c2:=by kernel_rfl
 c3:=by kernel_rfl
 c4:=by kernel_rfl
 c5:=by kernel_rfl
 c9:=by kernel_rfl
 c20:=by kernel_rfl
 c21:=by kernel_rfl
 c37:=by kernel_rfl
 c46:=by kernel_rfl
 c51:=by kernel_rfl
 c53:=by kernel_rfl
 c75:=by kernel_rfl
 c80:=by kernel_rfl
 c85:=by kernel_rfl
 c127:=by kernel_rfl
 c143:=by kernel_rfl
 c145:=by kernel_rfl
 c167:=by kernel_rfl
 c168:=by kernel_rfl
 c171:=by kernel_rfl
 c173:=by kernel_rfl
 c175:=by kernel_rfl
 c210:=by kernel_rfl
 c212:=by kernel_rfl
 c213:=by kernel_rfl
 c232:=by kernel_rfl
 c233:=by kernel_rfl}
open Go.RowKit in
theorem Tryz.strconv_ParseInt_10_at64_ok (s:ByteArray) (hmax:s.size≤9223372036854775806) (v:Int) (h:Lib.parseIntB 64 s.data.toList=.ok v) (w:World):
 Calls Tryz.prog 193 #[.string s,.int .i64 10,.int .i64 64] w fun e w'=>e=.returned (.tuple #[.int .i64 v,.nilIface])∧(w'=w∨∃t,w'=Lib.bytesWorld w 5 t):=Any.strconv_ParseInt_10_at64_ok Tryz.laysC174 s hmax v h w
open Go.RowKit in
theorem Tryz.strconv_ParseInt_10_at64_range (s:ByteArray) (hlim:s.size≤281474976710656) (h:Lib.parseIntB 64 s.data.toList=.range) (ev:Value) (w:World) (hv:w.cell? ⟨7,0,none⟩=some ev) (hev:ev=.nilIface∨∃te pe,ev=.iface te pe):
 Calls Tryz.prog 193 #[.string s,.int .i64 10,.int .i64 64] w fun e w'=>∃N,e=.returned (.tuple #[.int .i64 (Lib.intSat 64 s.data.toList),.iface 216 (.pointer (some ⟨N,0,none⟩))])∧w.heap.size≤N∧w'.heap[N]?=some (.cells #[.string ⟨#[80,97,114,115,101,73,110,116]⟩,.string s,ev] 230 (0,0))∧Below w.heap.size w w':=Any.strconv_ParseInt_10_at64_range Tryz.laysC174 s hlim h ev w hv hev
end Go.Proofs
namespace Go.Proofs.YtcfbjdplhgdpfaaGreatDoor
set_option linter.unusedVariables false
set_option linter.unusedSimpArgs false
section
end
section
open Go.RowKit
end
section
open Go.RowKit
end
section
open Go.RowKit
end
section
open Go.RowKit
end
section
open Go.RowKit
open Go.RowKit
open Go.RowKit
end
section
open Go.Lib
end
section
open Go.RowKit
end
section
open Go.RowKit Go.Sort
end
section
open Go.RowKit
open Go.RowKit
end
section
open Go.RowKit
end
section
open Go.RowKit
end
section
open Go.RowKit
section
variable {W W':World} {g:Nat} {s:Int} {P:Option Addr} {n c:Nat}
end
section
variable {w W W':World} {s0 s1 s2 s3:Int} {P0 P1 P2 P3:Option Addr} {n0 n1 n2 n3 c0 c1 c2 c3:Nat}
end
end
section
open Go.RowKit
open Go.RowKit
end
section
open Go.RowKit
end
section
open Go.RowKit
end
section
open Go.RowKit
end
section
open Go.RowKit
end
section
open Go.RowKit
theorem xG4:∀(l:List UInt8) (a:Nat),a≤l.foldl (fun a c=>a*10+(c.toNat-48)) a:=by
 intro l;induction l with
 |nil=>intro a;exact zQ _
 |cons c r ih=>
  intro a;have:=ih (a*10+(c.toNat-48));simp only[List.foldl_cons];omega
theorem xH4 (M:Nat) (hM:M≤18446744073709551615):∀(l:List UInt8) (a:Nat),xFb l→l.foldl (fun a c=>a*10+(c.toNat-48)) a≤M→Lib.parseUintM M a l=.ok (l.foldl (fun a c=>a*10+(c.toNat-48)) a):=by
 intro l;induction l with
 |nil=>intro a _ _;rfl
 |cons c r ih=>
  intro a hd hm;simp only[List.foldl_cons]at hm ⊢;have h1:=hd c (by simp);have h2:=xG4 r (a*10+(c.toNat-48));rw[Lib.parseUintM,zZ h1,zX yDn,zX yDn];exact ih _ (fun x hx=>hd x (by simp[hx])) hm
theorem xI4 (n:Nat) (hn:n<18446744073709551616):Lib.parseUintB 64 (Lib.decDigits n)=.ok n:=by
 have h:=xSb n;unfold Lib.parseUintB;rw[zX (xVb n)];have hv:(Lib.decDigits n).foldl (fun a c=>a*10+(c.toNat-48)) 0=n:=h.2;rw[xH4 (2^64-1) (by decide) _ 0 h.1 (by rw[hv];omega),hv]
theorem xJ4 (n:Nat) (h:n≤9223372036854775808):Lib.parseIntB 64 (45::Lib.decDigits n)=.ok (-(n:Int)):=by
 have hu:=xI4 n yDn;unfold Lib.parseIntB;simp only[show(45:UInt8).toNat=45 from rfl,hu,or_true,if_true,not_true_eq_false,false_and,xV0,zQ1];rw[zX yDn]
theorem xK4 (n:Nat) (h:n≤9223372036854775807):Lib.parseIntB 64 (Lib.decDigits n)=.ok (n:Int):=by
 have hu:=xI4 n yDn;have hd:=xUb n;cases e:Lib.decDigits n with
 |nil=>exact absurd e (xVb n)
 |cons c r=>
  rw[e]at hu hd;have hc:=hd c (by simp);unfold Lib.parseIntB;have e1:¬c.toNat=43:=by omega
  have e2:¬c.toNat=45:=by omega
  simp only[e2,e1,or_self,xV0,not_false_eq_true,zQ1,false_and];rw[hu];exact zX yDn
theorem xL4 (x:Int) (h0: -9223372036854775808≤x) (h1:x≤9223372036854775807):Lib.parseIntB 64 (S x).data.toList=.ok x:=by
 rw[xN5];rcases Int.lt_or_le x 0 with h|h
 · rw[yQe h,xJ4 _ yDn]
   exact zG0 _ yDn
 · rw[yPe h,xK4 _ yDn]
   exact zG0 _ yDn
theorem xM4 {x:Int} (h0: -9223372036854775808≤x) (h1:x≤9223372036854775807):x.natAbs<lim:=by
 have hL:=xBk;omega
def xN4 (a:ByteArray) (n:Int) (v:Bool):Prop:=∀w,Calls Tryz.prog 169 #[.string a] w fun e w'=>e=.returned (.tuple #[.int .i64 n,.bool v])∧Below w.heap.size w w'
theorem xO4 (x:Int) (h0: -9223372036854775808≤x) (h1:x≤9223372036854775807) (w:World):
 Calls Tryz.prog 193 #[.string (S x),.int .i64 10,.int .i64 64] w fun e w'=>e=.returned (.tuple #[.int .i64 x,.nilIface])∧Below w.heap.size w w':=by
 refine(Tryz.strconv_ParseInt_10_at64_ok (S x) (Nat.le_trans (xP5 (xM4 h0 h1)) (by decide)) x (xL4 x h0 h1) w).mono ?_;rintro e w' ⟨rfl,h⟩;refine⟨rfl,?_⟩;rcases h with rfl|⟨t,rfl⟩
 · exact zH _ _
 · exact Lib.bytesWorld_below _ _ _
theorem xP4 (x:Int) (h0: -9223372036854775808≤x) (h1:x≤9223372036854775807):xN4 (S x) x true:=by
 intro w;have hM:xFk (S x) true:=fun w=>xS5 (xM4 h0 h1) w;have hP:=xO4 x h0 h1;have KM:=zB hM;have KP:=zB hP;generalize S x=s at KM KP ⊢;clear hM hP;go_in;go_wp2_with fail;refine(KM.out _).mono ?_;rintro e w1 ⟨rfl,rfl⟩;go_wp2_with fail;refine(KP.out _).mono ?_;rintro e w2 ⟨rfl,hb⟩;go_wp2_with fail;go_ret2;exact⟨rfl,hb⟩
end
section
open Go.RowKit
end
section
open Go.RowKit
def I64 (x:Int):Prop:= -9223372036854775808≤x∧x≤9223372036854775807
instance (x:Int):Decidable (I64 x):=by unfold I64;infer_instance
end
section
open Go.RowKit
def xQ4 (s:ByteArray) (x:Int) (v:Bool) (W:World):Prop:=Calls Tryz.prog 169 #[.string s] W fun e W'=>e=.returned (.tuple #[.int .i64 x,.bool v])∧Below W.heap.size W W'
end
section
open Go.RowKit
theorem xR4 (M:Nat):∀(l:List UInt8) (a:Nat),xFb l→a≤M→M<l.foldl (fun a c=>a*10+(c.toNat-48)) a→Lib.parseUintM M a l=.range:=by
 intro l;induction l with
 |nil=>intro a _ h0 h1;exact absurd h1 (by simp only[List.foldl_nil];omega)
 |cons c r ih=>
  intro a hd h0 h1;simp only[List.foldl_cons]at h1;have hc:=hd c (by simp);rw[Lib.parseUintM,zZ hc];by_cases c1:1844674407370955162≤a
  · rw[zZ c1]
  · rw[zX c1]
    by_cases c2:M<a*10+(c.toNat-48)
    · rw[zZ c2]
    · rw[zX c2]
      exact ih _ (fun x hx=>hd x (by simp[hx])) yDn h1
theorem xS4 (n:Nat) (hn:18446744073709551616≤n):Lib.parseUintB 64 (Lib.decDigits n)=.range:=by
 have h:=xSb n;unfold Lib.parseUintB;rw[zX (xVb n)];have hv:(Lib.decDigits n).foldl (fun a c=>a*10+(c.toNat-48)) 0=n:=h.2;exact xR4 _ _ 0 h.1 (Nat.zero_le _) (by rw[hv];omega)
theorem xT4 (n:Nat) (h:9223372036854775808<n):Lib.parseIntB 64 (45::Lib.decDigits n)=.range:=by
 unfold Lib.parseIntB;by_cases h2:n<18446744073709551616
 · have hu:=xI4 n h2
   simp only[show(45:UInt8).toNat=45 from rfl,hu,or_true,if_true,not_true_eq_false,false_and,xV0,zQ1];rw[zZ yDn]
 · have hu:=xS4 n yDn
   simp only[show(45:UInt8).toNat=45 from rfl,hu,or_true,if_true]
theorem xU4 (n:Nat) (h:9223372036854775808≤n):Lib.parseIntB 64 (Lib.decDigits n)=.range:=by
 have hd:=xUb n;by_cases h2:n<18446744073709551616
 · have hu:=xI4 n h2
   cases e:Lib.decDigits n with
   |nil=>exact absurd e (xVb n)
   |cons c r=>
    rw[e]at hu hd;have hc:=hd c (by simp);unfold Lib.parseIntB;have e1:¬c.toNat=43:=by omega
    have e2:¬c.toNat=45:=by omega
    simp only[e2,e1,or_self,xV0,not_false_eq_true,zQ1,false_and];rw[hu];exact zZ yDn
 · have hu:=xS4 n yDn
   cases e:Lib.decDigits n with
   |nil=>exact absurd e (xVb n)
   |cons c r=>
    rw[e]at hu hd;have hc:=hd c (by simp);unfold Lib.parseIntB;have e1:¬c.toNat=43:=by omega
    have e2:¬c.toNat=45:=by omega
    simp only[e2,e1,or_self,xV0,not_false_eq_true,zQ1,false_and];rw[hu]
theorem xV4 (x:Int) (h:¬I64 x):Lib.parseIntB 64 (S x).data.toList=.range:=by
 unfold I64 at h;rw[xN5];rcases Int.lt_or_le x 0 with h0|h0
 · rw[yQe h0,xT4 _ yDn]
 · rw[yPe h0,xU4 _ yDn]
def ErrT (W:World):Prop:=∃ev,W.cell? ⟨7,0,none⟩=some ev∧(ev=.nilIface∨∃te pe,ev=.iface te pe)
theorem ErrT.below {w w':World} (h:ErrT w) (hb:Below w.heap.size w w'):ErrT w':=by
 obtain⟨ev,h,h2⟩:=h;have hl:7<w.heap.size:=by
  rcases Nat.lt_or_ge 7 w.heap.size with h'|h'
  · exact h'
  · simp[World.cell?,Array.getElem?_eq_none h']at h
 exact⟨ev,(hb.cell (show(⟨7,0,none⟩:Addr).block<w.heap.size from hl)).trans h,h2⟩
structure WT (W:World):Prop where
 tab:Tab W
 err:ErrT W
theorem WT.below {w w':World} (h:WT w) (hb:Below w.heap.size w w'):WT w':=⟨h.tab.below hb,h.err.below hb⟩
def xW4:Option Int→Int×Bool
 |some x=>if I64 x then(x,true)else(0,false)
 |none=>(0,false)
theorem xX4 (x:Int) (h:¬I64 x) (hl:x.natAbs<lim) (W:World) (he:ErrT W):xQ4 (S x) 0 false W:=by
 obtain⟨ev,hv,hev⟩:=he;have hM:xFk (S x) true:=fun w=>xS5 hl w;have hP:=Tryz.strconv_ParseInt_10_at64_range (S x) (Nat.le_trans (xP5 hl) (by decide)) (xV4 x h) ev W hv hev;have KM:=zB hM;have KP:=zB hP;generalize Lib.intSat 64 (S x).data.toList=sat at KP;generalize S x=s at KM KP ⊢;clear hM hP hv hev hl h;unfold xQ4;go_in;go_wp2_with fail;refine(KM.out _).mono ?_;rintro e w1 ⟨rfl,rfl⟩;go_wp2_with fail;refine(KP.out).mono ?_;rintro e w2 ⟨N,rfl,_,_,hb⟩;go_wp2_with fail;go_ret2;exact⟨rfl,hb⟩
theorem xY4 (s:ByteArray) (hm:yLe s.data.toList=false) (hs:s.size≤maxLen) (W:World):xQ4 s 0 false W:=by
 have hM:xFk s false:=fun w=>hm▸xBe s w hs;have KM:=zB hM;clear hM hm;unfold xQ4;go_in;go_wp2_with fail;refine(KM.out _).mono ?_;rintro e w1 ⟨rfl,rfl⟩;go_wp2_with fail;go_ret2;exact⟨rfl,zH _ _⟩
theorem xZ4 {s:ByteArray} {o:Option Int} (h:Is s o) (W:World) (he:ErrT W):xQ4 s (xW4 o).1 (xW4 o).2 W:=by
 cases o with
 |none=>exact xY4 s h.1 h.2 W
 |some x=>
  unfold xW4;dsimp only
  by_cases hi:I64 x
  · rw[zZ hi,h.1];exact xP4 x hi.1 hi.2 W
  · rw[zX hi,h.1];exact xX4 x hi h.2 W he
end
end Go.Proofs.YtcfbjdplhgdpfaaGreatDoor

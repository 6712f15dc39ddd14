import Derived.Test.YtcfbjdplhgdpfaaGreatDoorMar
import Derived.Deep.AppendLies
import Derived.Laws.CopyOwn
import Derived.IntWalk
import Derived.Shelf.LaysM
import Derived.Shelf.LaysC
import Derived.Shelf.Strconv.ParseIntPublic10
import Derived.Test.YtcfbjdplhgdpfaaGreatDoorProg
import Derived.Test.YtcfbjdplhgdpfaaGreatDoorMaf
set_option maxHeartbeats 800000
set_option maxRecDepth 10000
namespace Go.Proofs.YtcfbjdplhgdpfaaGreatDoor
set_option linter.unusedVariables false
set_option linter.unusedSimpArgs false
open Go.RowKit
def St (W:World) (a:Option Addr) (n:Nat) (l:List ByteArray):Prop:=
 l.length=n∧(0<n→∃b off,a=some ⟨b,off,none⟩∧∀j,j<n→W.cell? ⟨b,off+j,none⟩=some (.string (l.getD j ByteArray.empty)))
theorem St.below {W W':World} {a:Option Addr} {n:Nat} {l:List ByteArray} (h:St W a n l) (hb:Below W.heap.size W W'):St W' a n l:=by
 refine⟨h.1,fun hn=> ?_⟩
 obtain⟨b,off,e,hc⟩:=h.2 hn
 exact⟨b,off,e,fun j hj=>(hb.cell (show(⟨b,off+j,none⟩:Addr).block<W.heap.size from World.block_lt_of_cell? W _ (hc j hj))).trans (hc j hj)⟩
theorem St.nil (W:World) (a:Option Addr):St W a 0 []:=⟨rfl,fun h=>by omega⟩
structure Vl (W:World) (a:Option Addr) (n:Nat) (b:Option Addr) (m:Nat) (l:List Int) (es:List ByteArray):Prop where
 s:Sl W a n l
 t:St W b m es
 mm:m≤9223372036854775807
structure Cp (n c m d:Nat):Prop where
 nc:n≤c
 cm:c≤maxLen
 md:m≤d
 dm:d≤maxLen
section
variable {W W':World} {a b:Option Addr} {g n c m d:Nat} {l:List Int} {es:List ByteArray}
theorem Vl.below (h:Vl W a n b m l es) (hb:Below W.heap.size W W'):Vl W' a n b m l es:=⟨h.s.below hb,h.t.below hb,h.mm⟩
theorem Vl.none_ (W:World):Vl W none 0 none 0 [] []:=⟨Sl.nil _ _,St.nil _ _,by omega⟩
def Bx (W:World) (g:Nat) (a:Option Addr) (n c:Nat) (b:Option Addr) (m d:Nat):Prop:=W.heap[g]?=some (.cells #[.slice a n c,.slice b m d] 25 (0,0))
theorem Bx.lt (h:Bx W g a n c b m d):g<W.heap.size:=(Array.getElem?_eq_some_iff.1 h).1
theorem Bx.c0 (h:Bx W g a n c b m d):W.cell? ⟨g,0,none⟩=some (.slice a n c):=by rw[cell_of_row _ _ 0 _ _ _ h];rfl
theorem Bx.c1 (h:Bx W g a n c b m d):W.cell? ⟨g,1,none⟩=some (.slice b m d):=by rw[cell_of_row _ _ 1 _ _ _ h];rfl
theorem Bx.f (h:Bx W g a n c b m d) (i:Nat):W.frozen? ⟨g,i,none⟩=false:=frozen_of_row _ _ i _ _ h
theorem Bx.below (h:Bx W g a n c b m d) {B:Nat} (hb:Below B W W') (hg:g<B):Bx W' g a n c b m d:=(hb.block g hg).trans h
theorem Bx.alloc (h:Bx W g a n c b m d) (o:Obj):Bx (W.alloc o) g a n c b m d:=(Below.heap_alloc W o g h.lt).trans h
theorem Bx.new (W:World) (a:Option Addr) (n c:Nat) (b:Option Addr) (m d:Nat):Bx (W.alloc (.cells #[.slice a n c,.slice b m d] 25)) W.heap.size a n c b m d:=heap_alloc_new W _
theorem Bx.set (h:Bx W g a n c b m d) (a':Option Addr) (n' c':Nat) (b':Option Addr) (m' d':Nat):Bx ((W.setCell ⟨g,0,none⟩ (.slice a' n' c')).setCell ⟨g,1,none⟩ (.slice b' m' d')) g a' n' c' b' m' d':=by
 unfold Bx at h ⊢
 simp[World.setCell,Array.getElem?_modify,h]
theorem Bx.setOther (h:Bx W g a n c b m d) {p:Addr} (hp:g≠p.block) (u:Value):Bx (W.setCell p u) g a n c b m d:=(Below.heap_setCell W p u g hp).trans h
theorem Bx.cell_far (h:Bx W g a n c b m d) {p:Addr} {x:Value} (hp:W.cell? p=some x) (hx:∀a n c,x≠ .slice a n c) (u v:Value):((W.setCell ⟨g,0,none⟩ u).setCell ⟨g,1,none⟩ v).cell? p=some x:=by
 have p0:p≠⟨g,0,none⟩:=by
  rintro rfl
  rw[h.c0]at hp
  injection hp with hp
  exact hx _ _ _ hp.symm
 have p1:p≠⟨g,1,none⟩:=by
  rintro rfl
  rw[h.c1]at hp
  injection hp with hp
  exact hx _ _ _ hp.symm
 rw[World.cell?_setCell_other _ _ _ _ p1.symm,World.cell?_setCell_other _ _ _ _ p0.symm,hp]
theorem Bx.sl (h:Bx W g a n c b m d) {a':Option Addr} {n':Nat} (hs:Sl W a' n' l) (u v:Value):Sl ((W.setCell ⟨g,0,none⟩ u).setCell ⟨g,1,none⟩ v) a' n' l:=by
 refine⟨hs.1,fun hn=> ?_⟩
 obtain⟨bb,off,e,hc⟩:=hs.2 hn
 exact⟨bb,off,e,fun j hj=>h.cell_far (hc j hj) (by intro _ _ _ hh;cases hh) u v⟩
theorem Bx.st (h:Bx W g a n c b m d) {a':Option Addr} {n':Nat} (hs:St W a' n' es) (u v:Value):St ((W.setCell ⟨g,0,none⟩ u).setCell ⟨g,1,none⟩ v) a' n' es:=by
 refine⟨hs.1,fun hn=> ?_⟩
 obtain⟨bb,off,e,hc⟩:=hs.2 hn
 exact⟨bb,off,e,fun j hj=>h.cell_far (hc j hj) (by intro _ _ _ hh;cases hh) u v⟩
theorem below_made {B:Nat} (hb:Below B W W') (hg:B≤g) (u v:Value):Below B W ((W'.setCell ⟨g,0,none⟩ u).setCell ⟨g,1,none⟩ v):=(hb.setCell hg u).setCell hg v
end
theorem EqualS_is (a1 a2:Option Addr) (n c m d:Nat) (l k:List ByteArray) (W:World) (h1:St W a1 n l) (h2:St W a2 m k) (hn:n≤9223372036854775807) (hm:m≤9223372036854775807):
 Calls Tryz.prog 42 #[.slice a1 n c,.slice a2 m d] W fun x W'=>x=.returned (.bool (decide (l=k)))∧Below W.heap.size W W':=by
 by_cases hnm:n=m
 · subst hnm
   by_cases h0:n=0
   · subst h0
     have e1:=List.length_eq_zero_iff.1 h1.1
     have e2:=List.length_eq_zero_iff.1 h2.1
     subst e1 e2
     refine(Tryz.slices_Equal_string_empty a1 a2 c 0 d W (by decide)).mono ?_
     rintro x w ⟨rfl,rfl⟩
     exact⟨rfl,Below.refl _ _⟩
   · obtain⟨b1,o1,rfl,hc1⟩:=h1.2 (by omega)
     obtain⟨b2,o2,rfl,hc2⟩:=h2.2 (by omega)
     refine(Tryz.slices_Equal_string b1 o1 n c b2 o2 n d l k W (by rw[h1.1];exact Nat.le_refl _) (by rw[h2.1];exact Nat.le_refl _) hn hm (fun j hj=>hc1 j (by rw[←h1.1];exact hj)) (fun j hj=>hc2 j (by rw[←h2.1];exact hj))).mono ?_
     rintro x w ⟨rfl,q,rfl⟩
     refine⟨?_,⟨rfl,rfl,rfl,Nat.le_refl _,fun _ _=>rfl⟩⟩
     rw[List.take_of_length_le (by rw[h1.1];exact Nat.le_refl _),List.take_of_length_le (by rw[h2.1];exact Nat.le_refl _)]
 · refine(Tryz.slices_Equal_string_lens a1 a2 n c m d W hnm).mono ?_
   rintro x w ⟨rfl,rfl⟩
   refine⟨?_,Below.refl _ _⟩
   have:decide (l=k)=false:=decide_eq_false (by rintro rfl;exact hnm (h1.1.symm.trans h2.1))
   rw[this]
def mayV (l:List Int) (es:List ByteArray):Bool:=decide (szE l=0)&&decide ((es.length:Int)=szV l)&&es.all fun s=>mayL s.data.toList
structure MayVl (l:List Int) (es:List ByteArray):Prop where
 e:szE l=0
 len:(es.length:Int)=pr l
 all:∀j,j<es.length→mayL (es.getD j ByteArray.empty).data.toList=true
theorem all_at {p:ByteArray→Bool} {es:List ByteArray}:es.all p=true↔∀j,j<es.length→p (es.getD j ByteArray.empty)=true:=by
 rw[List.all_eq_true]
 constructor
 · intro h j hj
   rw[List.getD_eq_getElem?_getD,List.getElem?_eq_getElem hj]
   exact h _ (List.getElem_mem hj)
 · intro h x hx
   obtain⟨j,hj,rfl⟩:=List.getElem_of_mem hx
   have:=h j hj
   rwa [List.getD_eq_getElem?_getD,List.getElem?_eq_getElem hj]at this
theorem mayV_yes {l:List Int} {es:List ByteArray}:mayV l es=true↔MayVl l es:=by
 unfold mayV
 rw[Bool.and_eq_true,Bool.and_eq_true,decide_eq_true_eq,decide_eq_true_eq,all_at]
 constructor
 · rintro⟨⟨h1,h2⟩,h3⟩
   exact⟨h1,by rw[h2,szV_pr h1],h3⟩
 · rintro⟨h1,h2,h3⟩
   exact⟨⟨h1,by rw[h2,szV_pr h1]⟩,h3⟩
theorem mayV_e {l:List Int} {es:List ByteArray} (h:szE l≠0):mayV l es=false:=by
 unfold mayV;rw[decide_eq_false h];rfl
theorem mayV_len {l:List Int} {es:List ByteArray} (h:(es.length:Int)≠szV l):mayV l es=false:=by
 unfold mayV;rw[decide_eq_false h,Bool.and_false];rfl
theorem mayV_at {l:List Int} {es:List ByteArray} {j:Nat} (hj:j<es.length) (h:mayL (es.getD j ByteArray.empty).data.toList=false):mayV l es=false:=by
 rw[←Bool.not_eq_true]
 intro hh
 rw[(mayV_yes.1 hh).all j hj]at h
 cases h
def fewB (l:List Int) (es:List ByteArray):Bool:=(es.take 301).all (fun s=>decide (s.size≤120))&&(decide (es.length≤300)&&decide (l.length≤20))
theorem fewB_at {l:List Int} {es:List ByteArray} {j:Nat} (hj:j<es.length) (h3:j<301) (h:120<(es.getD j ByteArray.empty).size):fewB l es=false:=by
 have e:(es.take 301).all (fun s=>decide (s.size≤120))=false:=by
  rw[←Bool.not_eq_true]
  intro hh
  have:=all_at.1 hh j (by rw[List.length_take];omega)
  rw[List.getD_eq_getElem?_getD,List.getElem?_take_of_lt h3,←List.getD_eq_getElem?_getD]at this
  have:=of_decide_eq_true this
  omega
 unfold fewB
 rw[e];rfl
theorem fewB_all {l:List Int} {es:List ByteArray} (h:∀j,j<es.length→j<301→(es.getD j ByteArray.empty).size≤120):fewB l es=(decide (es.length≤300)&&decide (l.length≤20)):=by
 have e:(es.take 301).all (fun s=>decide (s.size≤120))=true:=by
  rw[all_at]
  intro j hj
  rw[List.length_take]at hj
  rw[List.getD_eq_getElem?_getD,List.getElem?_take_of_lt (by omega),←List.getD_eq_getElem?_getD]
  exact decide_eq_true (h j (by omega) (by omega))
 unfold fewB
 rw[e];rfl
def part (es:List ByteArray) (k i:Nat):List ByteArray:=(es.drop (i*k)).take k
theorem part_length {es:List ByteArray} {k i:Nat} (h:(i+1)*k≤es.length):(part es k i).length=k:=by
 unfold part
 rw[Nat.add_mul,Nat.one_mul]at h
 rw[List.length_take,List.length_drop];omega
end Go.Proofs.YtcfbjdplhgdpfaaGreatDoor
namespace Go.Proofs.YtcfbjdplhgdpfaaGreatDoor
set_option linter.unusedVariables false
set_option linter.unusedSimpArgs false
open Go.RowKit
def BoolEnd (b:Bool) (W:World) (e:Ending) (W':World):Prop:=e=.returned (.bool b)∧Below W.heap.size W W'
theorem Bx.two (W:World) (o:Obj) (a:Option Addr) (n c:Nat) (b:Option Addr) (m d:Nat):Bx ((W.alloc o).alloc (.cells #[.slice a n c,.slice b m d] 25)) (W.heap.size+1) a n c b m d:=by
 have:=Bx.new (W.alloc o) a n c b m d
 rwa [show(W.alloc o).heap.size=W.heap.size+1 by simp]at this
theorem VSame_is {a1 b1 a2 b2:Option Addr} {n1 c1 m1 d1 n2 c2 m2 d2:Nat} {l k:List Int} {es fs:List ByteArray} (W:World) (h1:Vl W a1 n1 b1 m1 l es) (h2:Vl W a2 n2 b2 m2 k fs) (q1:n1≤1000000) (q2:n2≤1000000):
 Calls Tryz.prog 15 #[.agg #[.slice a1 n1 c1,.slice b1 m1 d1],.agg #[.slice a2 n2 c2,.slice b2 m2 d2]] W (BoolEnd ((l==k)&&decide (es=fs)) W):=by
 have K1:=Lib.hid (fun w (hb:Below W.heap.size W w)=>Same_is a1 a2 n1 c1 n2 c2 l k w (h1.s.below hb) (h2.s.below hb) q1 q2)
 have K2:=Lib.hid (fun w (hb:Below W.heap.size W w)=>EqualS_is b1 b2 m1 d1 m2 d2 es fs w (h1.t.below hb) (h2.t.below hb) h1.mm h2.mm)
 clear h1 h2 q1 q2
 generalize (l==k)=p at K1 ⊢
 generalize decide (es=fs)=q at K2 ⊢
 go_enter Tryz.func15,Tryz.ntmps15
 go_wp2_with fail
 have hA:=(Bx.new W a1 n1 c1 b1 m1 d1).alloc (.cells #[.slice a2 n2 c2,.slice b2 m2 d2] 25)
 have hB:=Bx.two W (.cells #[.slice a1 n1 c1,.slice b1 m1 d1] 25) a2 n2 c2 b2 m2 d2
 have hb0:Below W.heap.size W ((W.alloc (.cells #[.slice a1 n1 c1,.slice b1 m1 d1] 25)).alloc (.cells #[.slice a2 n2 c2,.slice b2 m2 d2] 25)):=((Below.refl _ _).alloc (Nat.le_refl _) _).alloc (by simp) _
 refine(K1.out _ hb0).mono ?_
 rintro x w1 ⟨rfl,hb1⟩
 have x1:=(hA.below hb1 hA.lt).c1
 have x2:=(hB.below hb1 hB.lt).c1
 have hb2:=hb0.trans (hb1.mono hb0.size)
 clear hA hB hb0 hb1
 rcases Bool.eq_false_or_eq_true p with rfl|rfl
 · go_wp2_with fail
   refine(K2.out _ hb2).mono ?_
   rintro x w3 ⟨rfl,hb3⟩
   go_wp2_with fail
   go_ret
   exact⟨rfl,hb2.trans (hb3.mono hb2.size)⟩
 · go_wp2_with fail
   go_ret
   exact⟨rfl,hb2⟩
theorem VMay_is {a b:Option Addr} {n c m d:Nat} {l:List Int} {es:List ByteArray} (W:World) (h:Vl W a n b m l es) (hz:∀j,j<m→(es.getD j ByteArray.empty).size≤maxLen):
 Calls Tryz.prog 16 #[.agg #[.slice a n c,.slice b m d]] W (BoolEnd (mayV l es) W):=by
 have K1:=Lib.hid (fun w (hb:Below W.heap.size W w)=>Size_is a n c l w (h.s.below hb))
 have r2:=h.mm
 have HT:=Lib.hid h.t
 have HZ:=Lib.hid hz
 clear h hz
 have hb0:Below W.heap.size W (W.alloc (.cells #[.slice a n c,.slice b m d] 25)):=(Below.refl _ _).alloc (Nat.le_refl _) _
 by_cases he:szE l=0
 · by_cases hm:(m:Int)=szV l
   · have hmv:∀(h:∀j,j<m→mayL (es.getD j ByteArray.empty).data.toList=true),mayV l es=true:=fun h=>mayV_yes.2 ⟨he,by rw[HT.out.1,hm,szV_pr he],by rw[HT.out.1];exact h⟩
     have hmn:∀j,j<m→mayL (es.getD j ByteArray.empty).data.toList=false→mayV l es=false:=fun j hj h=>mayV_at (by rw[HT.out.1];exact hj) h
     have HM:=Lib.hid (And.intro hmv hmn)
     clear hmv hmn
     rw[←hm,he]at K1
     clear hm he
     generalize mayV l es=v at HM ⊢
     go_enter Tryz.func16,Tryz.ntmps16
     go_wp2_with fail
     refine(K1.out _ hb0).mono ?_
     rintro x w1 ⟨rfl,rfl⟩
     go_wp2_with fail
     go_loop [25] (fun i=>∃k:Nat,i=.int .i64 k∧k≤m∧Hid (∀j,j<k→mayL (es.getD j ByteArray.empty).data.toList=true)) (fun i=>m-(intOf i).toNat)
     case atStart=>exact⟨0,rfl,by omega,Lib.hid fun j hj=>by omega⟩
     case round=>
      obtain⟨k,rfl,hk,HI⟩:=hrel
      by_cases hlt:k<m
      · have e2:(k:Int)<(m:Int):=by omega
        obtain⟨bb,off,rfl,hc⟩:=HT.out.2 (by omega)
        have hck:=(hb0.cell (p:=⟨bb,off+k,none⟩) (World.block_lt_of_cell? W _ (hc k hlt))).trans (hc k hlt)
        have hs:=HZ.out k hlt
        clear hc
        obtain⟨s,hse⟩:∃s,s=es.getD k ByteArray.empty:=⟨_,rfl⟩
        rw[←hse]at hck hs
        have KM:=Lib.hid (fun w=>may_any s w hs)
        have HE:=Lib.hid hse
        clear hse hs
        cases hv:mayL s.data.toList
        · rw[hv]at KM
          obtain rfl:v=false:=HM.out.2 k hlt (by rw[←HE.out];exact hv)
          clear hv
          go_wp2_with fail
          refine(KM.out _).mono ?_
          rintro x w2 ⟨rfl,rfl⟩
          go_wp2_with fail
          go_ret
          exact⟨rfl,hb0⟩
        · rw[hv]at KM
          have HV:=Lib.hid hv
          clear hv
          go_wp2_with fail
          refine(KM.out _).mono ?_
          rintro x w2 ⟨rfl,rfl⟩
          go_wp2_with fail
          go_round
          case rel=>
           refine⟨k+1,by go_num,by omega,Lib.hid fun j hj=> ?_⟩
           rcases Nat.lt_or_ge j k with h2|h2
           · exact HI.out j h2
           · rw[show j=k by omega,←HE.out];exact HV.out
          case measure=>simp[intOf];omega
      · have e2:¬(k:Int)<(m:Int):=by omega
        obtain rfl:v=true:=HM.out.1 fun j hj=>HI.out j (by omega)
        go_wp2_with fail
        go_ret
        exact⟨rfl,hb0⟩
   · have hv:=mayV_len (l:=l) (es:=es) (by rw[HT.out.1];exact hm)
     rw[hv]
     rw[he]at K1
     clear hv he
     generalize szV l=P at*
     go_enter Tryz.func16,Tryz.ntmps16
     go_wp2_with fail
     refine(K1.out _ hb0).mono ?_
     rintro x w1 ⟨rfl,rfl⟩
     go_wp2_with fail
     go_ret
     exact⟨rfl,hb0⟩
 · have hv:=mayV_e (es:=es) he
   rw[hv]
   rw[szV_zero he]at K1
   clear hv
   generalize szE l=E at*
   have hE:(E != 0)=true:=by simpa using he
   go_enter Tryz.func16,Tryz.ntmps16
   go_wp2_with fail
   refine(K1.out _ hb0).mono ?_
   rintro x w1 ⟨rfl,rfl⟩
   go_wp2_with fail
   all_goals
    go_ret
    exact⟨rfl,hb0⟩
theorem VMany_is {a b:Option Addr} {n c m d:Nat} {l:List Int} {es:List ByteArray} (W:World) (h:Vl W a n b m l es) (hn:n≤20) (hc:n≤c) (hc2:c≤maxLen):
 Calls Tryz.prog 96 #[.agg #[.slice a n c,.slice b m d]] W (IntEnd (itV l) W):=by
 have K1:=Lib.hid (fun w (hb:Below W.heap.size W w)=>Items_is a n c l w (h.s.below hb) hn hc hc2)
 clear h hc hc2
 generalize itV l=v at K1 ⊢
 go_enter Tryz.func96,Tryz.ntmps96
 go_wp2_with fail
 have hb0:Below W.heap.size W (W.alloc (.cells #[.slice a n c,.slice b m d] 25)):=(Below.refl _ _).alloc (Nat.le_refl _) _
 refine(K1.out _ hb0).mono ?_
 rintro x w1 ⟨a',n',c',rfl,hs,hn',hb1⟩
 clear hs
 go_wp2_with fail
 go_ret
 exact⟨rfl,hb0.trans (hb1.mono hb0.size)⟩
end Go.Proofs.YtcfbjdplhgdpfaaGreatDoor
namespace Go.Proofs.YtcfbjdplhgdpfaaGreatDoor
set_option linter.unusedVariables false
set_option linter.unusedSimpArgs false
open Go.RowKit
theorem infoInt1:(Tryz.prog.info? 3).map (fun i=>(i.zero,i.size,i.bytes))=some (some (.int .i64 0),1,8):=by kernel_rfl
theorem infoStr:(Tryz.prog.info? 9).map (fun i=>(i.zero,i.size,i.bytes))=some (some (.string ⟨#[]⟩),1,16):=by kernel_rfl
def Sr (w:World) (g n:Nat) (F:Nat→ByteArray):Prop:=w.rowIs g 9 n (fun j=>Value.string (F j))
theorem Sr.made (w:World) (n:Nat):Sr (w.alloc (.cells (madeCells #[.string ⟨#[]⟩] n) 9)) w.heap.size n (fun _=>⟨#[]⟩):=World.rowIs_made w _ n _
theorem Sr.cell {w:World} {g n:Nat} {F:Nat→ByteArray} (h:Sr w g n F) {i:Nat} (hi:i<n):w.cell? ⟨g,i,none⟩=some (.string (F i)):=by
 obtain⟨c,hg,_,hc⟩:=h
 rw[cell_of_row w g i c _ _ hg,hc i hi]
theorem Sr.lt {w:World} {g n:Nat} {F:Nat→ByteArray} (h:Sr w g n F):g<w.heap.size:=by
 obtain⟨c,hg,_,hc⟩:=h
 exact(Array.getElem?_eq_some_iff.1 hg).1
theorem Sr.block {w w':World} {g n:Nat} {F:Nat→ByteArray} (h:Sr w g n F) (e:w'.heap[g]?=w.heap[g]?):Sr w' g n F:=by
 obtain⟨c,hg,h1,hc⟩:=h
 exact⟨c,e.trans hg,h1,hc⟩
theorem Sr.below {w w':World} {g n:Nat} {F:Nat→ByteArray} (h:Sr w g n F) (hb:Below w.heap.size w w'):Sr w' g n F:=h.block (hb.block g h.lt)
theorem Sr.st {w:World} {g n:Nat} {F:Nat→ByteArray} (h:Sr w g n F) {l:List ByteArray} (hl:l.length=n) (he:∀j,j<n→F j=l.getD j ByteArray.empty):St w (some ⟨g,0,none⟩) n l:=
 ⟨hl,fun _=>⟨g,0,rfl,fun j hj=>by rw[Nat.zero_add,h.cell hj,he j hj]⟩⟩
theorem run_mks (n:Nat) (hn:n≤1000000) (w:World):
 (Instr.makeSlice 23 (.int .i64 (n:Int)) (.int .i64 (n:Int))).run Tryz.prog w=.ok (.slice (some ⟨w.heap.size,0,none⟩) n n) (w.alloc (.cells (madeCells #[.string ⟨#[]⟩] n) 9)):=
 run_make_row' 23 9 _ 16 Tryz.underlying23 infoStr rfl _ _ n (by omega) (by omega) w
theorem item_div {q e m:Nat} (hq:0<q) (he:m=q*e):(m:Int)/(q:Int)=(e:Int):=by
 have h:((q*e:Nat):Int)=(q:Int)*(e:Int):=Int.natCast_mul q e
 rw[he,h]
 exact Int.mul_ediv_cancel_left _ (by omega)
theorem item_wrap {k e o:Nat} (ho:o=k*e) (h:o≤1000000):IntKind.i64.wrap ((k:Int)*(e:Int))=(o:Int):=by
 have h2:((k*e:Nat):Int)=(k:Int)*(e:Int):=Int.natCast_mul k e
 rw[←h2,←ho]
 exact IntWalk.i64_in _ (by omega)
end Go.Proofs.YtcfbjdplhgdpfaaGreatDoor
namespace Go.Proofs
set_option linter.unusedVariables false
set_option linter.unusedSimpArgs false
open Go.Shelf
def Tryz.laysC174_ren:Go.Shelf.Ren:=⟨fun| 174=>193 | 247=>215 | 245=>216 | 287=>233 | 279=>234 | 280=>235 | 281=>236 | 282=>237 | 321=>253 | 322=>254 | 316=>255 | 171=>95 | 205=>256 | 243=>137 | 246=>135 | 283=>165 | 284=>166 | 285=>167 | 286=>168 | 129=>189 | 317=>188 | 318=>190 | 319=>191 | 320=>192 | 337=>213 | 338=>214 |n=>n,fun| 9=>9 | 3=>3 | 2=>2 | 75=>189 | 85=>190 | 4=>4 | 167=>213 | 5=>5 | 53=>153 | 175=>214 | 46=>131 | 168=>216 | 37=>137 | 0=>0 | 210=>230 | 21=>21 | 127=>244 | 145=>247 | 143=>245 | 171=>152 | 173=>156 | 212=>184 | 51=>165 | 20=>20 | 213=>185 | 232=>211 | 233=>212 | 80=>60 |n=>n,fun| 15=>6 | 16=>7 | 17=>2 | 18=>3 | 19=>4 |n=>n⟩
theorem Tryz.laysC174:Go.Proofs.LaysC.n174 Tryz.prog Tryz.laysC174_ren:={
 mixed:=by kernel_rfl
 f129:=Tryz.func189.trans (congrArg some (by kernel_rfl))
 f171:=Tryz.func95.trans (congrArg some (by kernel_rfl))
 f174:=Tryz.func193.trans (congrArg some (by kernel_rfl))
 f205:=Tryz.func256.trans (congrArg some (by kernel_rfl))
 f243:=Tryz.func137.trans (congrArg some (by kernel_rfl))
 f245:=Tryz.func216.trans (congrArg some (by kernel_rfl))
 f246:=Tryz.func135.trans (congrArg some (by kernel_rfl))
 f247:=Tryz.func215.trans (congrArg some (by kernel_rfl))
 f279:=Tryz.func234.trans (congrArg some (by kernel_rfl))
 f280:=Tryz.func235.trans (congrArg some (by kernel_rfl))
 f281:=Tryz.func236.trans (congrArg some (by kernel_rfl))
 f282:=Tryz.func237.trans (congrArg some (by kernel_rfl))
 f283:=Tryz.func165.trans (congrArg some (by kernel_rfl))
 f284:=Tryz.func166.trans (congrArg some (by kernel_rfl))
 f285:=Tryz.func167.trans (congrArg some (by kernel_rfl))
 f286:=Tryz.func168.trans (congrArg some (by kernel_rfl))
 f287:=Tryz.func233.trans (congrArg some (by kernel_rfl))
 f316:=Tryz.func255.trans (congrArg some (by kernel_rfl))
 f317:=Tryz.func188.trans (congrArg some (by kernel_rfl))
 f318:=Tryz.func190.trans (congrArg some (by kernel_rfl))
 f319:=Tryz.func191.trans (congrArg some (by kernel_rfl))
 f320:=Tryz.func192.trans (congrArg some (by kernel_rfl))
 f321:=Tryz.func253.trans (congrArg some (by kernel_rfl))
 f322:=Tryz.func254.trans (congrArg some (by kernel_rfl))
 f337:=Tryz.func213.trans (congrArg some (by kernel_rfl))
 f338:=Tryz.func214.trans (congrArg some (by kernel_rfl))
 t0:=Tryz.underlying0
 a0:=Tryz.isAgg0
 z0:=Tryz.sizeOf0
 v0:=Tryz.zeroValue0
 t2:=Tryz.underlying2
 a2:=Tryz.isAgg2
 z2:=Tryz.sizeOf2
 v2:=Tryz.zeroValue2
 t3:=Tryz.underlying3
 a3:=Tryz.isAgg3
 z3:=Tryz.sizeOf3
 v3:=Tryz.zeroValue3
 t4:=Tryz.underlying4
 a4:=Tryz.isAgg4
 z4:=Tryz.sizeOf4
 v4:=Tryz.zeroValue4
 t5:=Tryz.underlying5
 a5:=Tryz.isAgg5
 z5:=Tryz.sizeOf5
 v5:=Tryz.zeroValue5
 t9:=Tryz.underlying9
 a9:=Tryz.isAgg9
 z9:=Tryz.sizeOf9
 v9:=Tryz.zeroValue9
 t20:=Tryz.underlying20
 a20:=Tryz.isAgg20
 z20:=Tryz.sizeOf20
 v20:=Tryz.zeroValue20
 t21:=Tryz.underlying21
 a21:=Tryz.isAgg21
 z21:=Tryz.sizeOf21
 v21:=Tryz.zeroValue21
 t37:=Tryz.underlying137
 a37:=Tryz.isAgg137
 z37:=Tryz.sizeOf137
 v37:=Tryz.zeroValue137
 t46:=Tryz.underlying131
 a46:=Tryz.isAgg131
 z46:=Tryz.sizeOf131
 v46:=Tryz.zeroValue131
 t51:=Tryz.underlying165
 a51:=Tryz.isAgg165
 z51:=Tryz.sizeOf165
 v51:=Tryz.zeroValue165
 t53:=Tryz.underlying153
 a53:=Tryz.isAgg153
 z53:=Tryz.sizeOf153
 v53:=Tryz.zeroValue153
 t75:=Tryz.underlying189
 a75:=Tryz.isAgg189
 z75:=Tryz.sizeOf189
 v75:=Tryz.zeroValue189
 t85:=Tryz.underlying190
 a85:=Tryz.isAgg190
 z85:=Tryz.sizeOf190
 v85:=Tryz.zeroValue190
 t127:=Tryz.underlying244
 a127:=Tryz.isAgg244
 z127:=Tryz.sizeOf244
 v127:=Tryz.zeroValue244
 t143:=Tryz.underlying245
 a143:=Tryz.isAgg245
 z143:=Tryz.sizeOf245
 v143:=Tryz.zeroValue245
 t145:=Tryz.underlying247
 a145:=Tryz.isAgg247
 z145:=Tryz.sizeOf247
 v145:=Tryz.zeroValue247
 t167:=Tryz.underlying213
 a167:=Tryz.isAgg213
 z167:=Tryz.sizeOf213
 v167:=Tryz.zeroValue213
 t168:=Tryz.underlying216
 a168:=Tryz.isAgg216
 z168:=Tryz.sizeOf216
 v168:=Tryz.zeroValue216
 t171:=Tryz.underlying152
 a171:=Tryz.isAgg152
 z171:=Tryz.sizeOf152
 v171:=Tryz.zeroValue152
 t173:=Tryz.underlying156
 a173:=Tryz.isAgg156
 z173:=Tryz.sizeOf156
 v173:=Tryz.zeroValue156
 t175:=Tryz.underlying214
 a175:=Tryz.isAgg214
 z175:=Tryz.sizeOf214
 v175:=Tryz.zeroValue214
 t210:=Tryz.underlying230
 a210:=Tryz.isAgg230
 z210:=Tryz.sizeOf230
 v210:=Tryz.zeroValue230
 t212:=Tryz.underlying184
 a212:=Tryz.isAgg184
 z212:=Tryz.sizeOf184
 v212:=Tryz.zeroValue184
 t213:=Tryz.underlying185
 a213:=Tryz.isAgg185
 z213:=Tryz.sizeOf185
 t232:=Tryz.underlying211
 a232:=Tryz.isAgg211
 z232:=Tryz.sizeOf211
 v232:=Tryz.zeroValue211
 t233:=Tryz.underlying212
 a233:=Tryz.isAgg212
 z233:=Tryz.sizeOf212
 v233:=Tryz.zeroValue212
 g15:=by kernel_rfl
 g16:=by kernel_rfl
 g17:=by kernel_rfl
 g18:=by kernel_rfl
 g19:=by kernel_rfl
 t80:=Tryz.underlying60
 a80:=Tryz.isAgg60
 z80:=Tryz.sizeOf60
 v80:=Tryz.zeroValue60
 i0:=by kernel_rfl
 i2:=by kernel_rfl
 i3:=by kernel_rfl
 i4:=by kernel_rfl
 i5:=by kernel_rfl
 i9:=by kernel_rfl
 i20:=by kernel_rfl
 i21:=by kernel_rfl
 i37:=by kernel_rfl
 i46:=by kernel_rfl
 i51:=by kernel_rfl
 i53:=by kernel_rfl
 i75:=by kernel_rfl
 i80:=by kernel_rfl
 i85:=by kernel_rfl
 i127:=by kernel_rfl
 i143:=by kernel_rfl
 i145:=by kernel_rfl
 i167:=by kernel_rfl
 i168:=by kernel_rfl
 i171:=by kernel_rfl
 i173:=by kernel_rfl
 i175:=by kernel_rfl
 i210:=by kernel_rfl
 i212:=by kernel_rfl
 i232:=by kernel_rfl
 i233:=by kernel_rfl
 m15:=by kernel_rfl
 m16:=by kernel_rfl
 m17:=by kernel_rfl
 m18:=by kernel_rfl
 m19:=by kernel_rfl
 c0:=by kernel_rfl
 c2:=by kernel_rfl
 c3:=by kernel_rfl
 c4:=by kernel_rfl
 c5:=by kernel_rfl
 c9:=by kernel_rfl
 c20:=by kernel_rfl
 c21:=by kernel_rfl
 c37:=by kernel_rfl
 c46:=by kernel_rfl
 c51:=by kernel_rfl
 c53:=by kernel_rfl
 c75:=by kernel_rfl
 c80:=by kernel_rfl
 c85:=by kernel_rfl
 c127:=by kernel_rfl
 c143:=by kernel_rfl
 c145:=by kernel_rfl
 c167:=by kernel_rfl
 c168:=by kernel_rfl
 c171:=by kernel_rfl
 c173:=by kernel_rfl
 c175:=by kernel_rfl
 c210:=by kernel_rfl
 c212:=by kernel_rfl
 c213:=by kernel_rfl
 c232:=by kernel_rfl
 c233:=by kernel_rfl}
open Go.RowKit in
theorem Tryz.strconv_ParseInt_10_at64_ok (s:ByteArray) (hmax:s.size≤9223372036854775806) (v:Int) (h:Lib.parseIntB 64 s.data.toList=.ok v) (w:World):
 Calls Tryz.prog 193 #[.string s,.int .i64 10,.int .i64 64] w fun e w'=>e=.returned (.tuple #[.int .i64 v,.nilIface])∧(w'=w∨∃t,w'=Lib.bytesWorld w 5 t):=Any.strconv_ParseInt_10_at64_ok Tryz.laysC174 s hmax v h w
open Go.RowKit in
theorem Tryz.strconv_ParseInt_10_at64_range (s:ByteArray) (hlim:s.size≤281474976710656) (h:Lib.parseIntB 64 s.data.toList=.range) (ev:Value) (w:World) (hv:w.cell? ⟨7,0,none⟩=some ev) (hev:ev=.nilIface∨∃te pe,ev=.iface te pe):
 Calls Tryz.prog 193 #[.string s,.int .i64 10,.int .i64 64] w fun e w'=>∃N,e=.returned (.tuple #[.int .i64 (Lib.intSat 64 s.data.toList),.iface 216 (.pointer (some ⟨N,0,none⟩))])∧w.heap.size≤N∧w'.heap[N]?=some (.cells #[.string ⟨#[80,97,114,115,101,73,110,116]⟩,.string s,ev] 230 (0,0))∧Below w.heap.size w w':=Any.strconv_ParseInt_10_at64_range Tryz.laysC174 s hlim h ev w hv hev
end Go.Proofs

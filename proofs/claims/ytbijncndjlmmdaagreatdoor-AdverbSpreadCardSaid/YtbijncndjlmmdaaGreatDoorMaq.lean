import Derived.Test.YtbijncndjlmmdaaGreatDoorMap
import Derived.Maps.AppendAt
import Derived.Laws.OwnMore
import Derived.Deep.RegionLaw
import Derived.Test.YtbijncndjlmmdaaGreatDoorMaf
import Derived.Test.YtbijncndjlmmdaaGreatDoorMan
import Derived.Deep.AppendLies
import Derived.Test.YtbijncndjlmmdaaGreatDoorMam
import Derived.WalkKit
import Derived.WalkSpells
import Derived.WalkLawsBesides
import Derived.Lib.Hide
import Derived.BigQuiet
import Derived.Deep.QuietTactic
import Derived.Deep.RegionWith
import Derived.Deep.OwnRows
import Derived.Test.YtbijncndjlmmdaaGreatDoorMaj
import Derived.Lib.Bytealg
import Derived.RangeFuncBox
import Derived.RangeFuncLeaves
import Derived.RangeFuncCalls
set_option maxHeartbeats 1600000
set_option maxRecDepth 10000
namespace Go.Proofs.YtbijncndjlmmdaaGreatDoor
set_option linter.unusedVariables false
set_option linter.unusedSimpArgs false
open Go.RowKit
set_option maxRecDepth 10000
section
variable {w:World}
end
section
variable {w:World}
end
end Go.Proofs.YtbijncndjlmmdaaGreatDoor
namespace Go.Proofs.YtbijncndjlmmdaaGreatDoor
set_option linter.unusedVariables false
set_option linter.unusedSimpArgs false
open Go.RowKit
def Stb (P:World→Prop):Prop:=∀w w',P w→Below w.heap.size w w'→P w'
theorem Stb.and {P Q:World→Prop} (h:Stb P) (g:Stb Q):Stb fun w=>P w∧Q w:=fun w w' k hb=>⟨h w w' k.1 hb,g w w' k.2 hb⟩
theorem Stb.bel (W:World):Stb fun w=>Below W.heap.size W w:=fun _ _ h hb=>h.trans (hb.mono h.size)
theorem Stb.bx {g:Nat} {a b:Option Addr} {n c m d:Nat}:Stb fun w=>Bx w g a n c b m d:=fun _ _ h hb=>h.below hb h.lt
theorem Stb.vl {a b:Option Addr} {n m:Nat} {l:List Int} {es:List ByteArray}:Stb fun w=>Vl w a n b m l es:=fun _ _ h hb=>h.below hb
theorem Stb.triv {p:Prop}:Stb fun _=>p:=fun _ _ h _=>h
structure Lv (P:World→Prop) (w:World):Prop where
 out:P w
theorem live {P:World→Prop} {w:World} {f:FuncId} {args:Array Value} {R:Ending→World→Prop} (h:Lv P w) (hc:Calls Tryz.prog f args w fun e w'=>R e w'∧Below w.heap.size w w')
 (hs:Stb P:=by repeat' (first|exact Stb.bel _|exact Stb.bx|exact Stb.vl|refine Stb.and ?_ ?_|exact Stb.triv)):Calls Tryz.prog f args w fun e w'=>R e w'∧Lv P w':=hc.mono fun _ _ k=>⟨k.1,⟨hs _ _ h.out k.2⟩⟩
theorem live_box {P:World→Prop} {w:World} {a b:Option Addr} {n m:Nat} {l:List Int} {es:List ByteArray} (h:Lv P w) (hv:Vl w a n b m l es) (c d:Nat)
 (hs:Stb P:=by repeat' (first|exact Stb.bel _|exact Stb.bx|exact Stb.vl|refine Stb.and ?_ ?_|exact Stb.triv)):
 Lv (fun w'=>Bx w' w.heap.size a n c b m d∧Vl w' a n b m l es∧P w') (w.alloc (.cells #[.slice a n c,.slice b m d] 25)):=
 have hb:Below w.heap.size w (w.alloc (.cells #[.slice a n c,.slice b m d] 25)):=(Below.refl _ _).alloc (Nat.le_refl _) _
 ⟨⟨Bx.new _ _ _ _ _ _ _,hv.below hb,hs _ _ h.out hb⟩⟩
end Go.Proofs.YtbijncndjlmmdaaGreatDoor
namespace Go.Proofs.YtbijncndjlmmdaaGreatDoor
set_option linter.unusedVariables false
set_option linter.unusedSimpArgs false
open Go.RowKit
theorem prD_is:∀l:List Int,prD l=pr l
 |[]=>rfl
 |x::r=>by show x*prD r=x*pr r;rw[prD_is r]
def AIs (l:List Int) (es:List ByteArray):Option Ar→Prop
 |some q=>q.1=l∧es=q.2.map S∧MayVl l es∧∀x∈q.2,x.natAbs<lim
 |none=>mayV l es=false
theorem ais_ex (l:List Int) (es:List ByteArray):∃o,AIs l es o:=by
 cases h:mayV l es
 · exact⟨none,h⟩
 · have hm:=mayV_yes.1 h
   obtain⟨xs,h1,h2⟩:=nums_of (es:=es) fun s hs=>by
    obtain⟨j,hj,rfl⟩:=List.getElem_of_mem hs
    have:=hm.all j hj
    rwa [List.getD_eq_getElem?_getD,List.getElem?_eq_getElem hj]at this
   exact⟨some (l,xs),rfl,h1,hm,h2⟩
theorem AIs.may {l:List Int} {es:List ByteArray} {o:Option Ar} (h:AIs l es o):mayV l es=o.isSome:=by
 cases o with
 |none=>exact h
 |some q=>exact mayV_yes.2 h.2.2.1
def TS (o:Option Ar):List Int×List ByteArray:=match o with
 |some q=>(q.1,q.2.map S)
 |none=>([],[])
def AEnd (l:List Int) (es:List ByteArray) (ec:Int) (W:World) (e:Ending) (W':World):Prop:=
 ∃a n c b m d,e=.returned (.tuple #[.agg #[.slice a n c,.slice b m d],.int .i64 ec])∧Vl W' a n b m l es∧Cp n c m d∧Below W.heap.size W W'
theorem valsS_snoc (l:List ByteArray) (s:ByteArray):valsS (l++[s])=valsS l++[.string s]:=by simp[valsS]
theorem Bx.newG (W:World) (g:Nat) (hg:g=W.heap.size) (a:Option Addr) (n c:Nat) (b:Option Addr) (m d:Nat):Bx (W.alloc (.cells #[.slice a n c,.slice b m d] 25)) g a n c b m d:=by rw[hg];exact Bx.new W a n c b m d
theorem own_set {w:World} {B n:Nat} {e:TypeId} {v:Value} {xs:List Value} (h:w.ownsRow B e 1 v n xs) {p:Addr} (hp:p.block<B) (u:Value):(w.setCell p u).ownsRow B e 1 v n xs:=by
 refine⟨h.1,?_⟩
 rcases h.2 with h0|⟨g,cap,cur,e1,e2,hg,h2⟩
 · exact .inl h0
 · exact .inr ⟨g,cap,cur,e1,e2,(Below.heap_setCell _ _ _ g (by omega)).trans hg,h2⟩
end Go.Proofs.YtbijncndjlmmdaaGreatDoor
namespace Go.Proofs.YtbijncndjlmmdaaGreatDoor
set_option linter.unusedVariables false
set_option linter.unusedSimpArgs false
section
end
section
open Go.RowKit
structure R3 (l:List Int) (k:Nat) (sz:Int):Prop where
 lo:1≤sz
 hi:sz≤4096
 eq:sz=pr (l.take k)
end
end Go.Proofs.YtbijncndjlmmdaaGreatDoor
namespace Go.Proofs.YtbijncndjlmmdaaGreatDoor
set_option linter.unusedVariables false
set_option linter.unusedSimpArgs false
section
open Go.RowKit
end
section
open Go.RowKit
theorem ofB_in {l t:List Int} {k:Nat} (hk:k<l.length) (h:t.getD k 0<0∨l.getD k 0≤t.getD k 0):ofB l t=false∧ofV l t=0:=by
 have e:ofB l t=false:=by unfold ofB;rw[inL_not hk h];simp
 exact⟨e,by unfold ofV;rw[e];rfl⟩
theorem ofB_bad {l t:List Int} (h:szE l≠0∨l.length≠t.length):ofB l t=false∧ofV l t=0:=by
 have e:ofB l t=false:=by
  unfold ofB
  rcases h with h|h
  · rw[decide_eq_false h];rfl
  · rw[decide_eq_false h];simp
 exact⟨e,by unfold ofV;rw[e];rfl⟩
def OffIs (f:Nat) (a1 a2:Option Addr) (n c m d:Nat) (v:Int) (b:Bool) (W:World):Prop:=
 Calls Tryz.prog f #[.slice a1 n c,.slice a2 m d] W fun x W'=>x=.returned (.tuple #[.int .i64 v,.bool b])∧SDrawn W W'
theorem Offset_is (a1 a2:Option Addr) (n c m d:Nat) (l t:List Int) (W:World) (h1:Sl W a1 n l) (h2:Sl W a2 m t) (hm20:m≤20):OffIs 159 a1 a2 n c m d (ofV l t) (ofB l t) W:=by
 have hmay:=May_is a1 n c l W h1 _ rfl
 obtain⟨v,hv⟩:∃v,v=ofV l t:=⟨_,rfl⟩
 obtain⟨b,hb⟩:∃b,b=ofB l t:=⟨_,rfl⟩
 rw[←hv,←hb]
 have HV:=Lib.hid hv
 have HB:=Lib.hid hb
 have H1:=Lib.hid h1
 have H2:=Lib.hid h2
 clear hv hb h1 h2
 unfold OffIs
 by_cases he:szE l=0
 · rw[he]at hmay
   have HM:=Lib.hid (szE_may.1 he)
   have hn3:n≤3:=by have:=HM.out.len;rw[H1.out.1]at this;exact this
   have K:=Lib.hid hmay
   clear hmay he
   by_cases hnm:m=n
   · subst hnm
     have hlt:l.length=t.length:=by rw[H1.out.1,H2.out.1]
     have HL:=Lib.hid hlt
     clear hlt
     go_enter Tryz.func159,Tryz.ntmps159
     go_wp2_with fail
     refine K.out.mono ?_
     rintro x w1 ⟨rfl,rfl⟩
     go_wp2_with fail
     go_loop [6,21] (fun o i=>∃(k:Nat) (z:Int),i=.int .i64 k∧o=.int .i64 z∧k≤m∧OfInv l t k z) (fun _ i=>m-(intOf i).toNat)
     case atStart=>exact⟨0,0,rfl,rfl,by omega,OfInv.start l t⟩
     case round=>
      obtain⟨k,z,rfl,rfl,hk,hI⟩:=hrel
      have HI:=Lib.hid hI
      clear hI
      by_cases hlt:k<m
      · have e2:(k:Int)<(m:Int):=by omega
        obtain⟨b1,o1,rfl,hc1⟩:=H1.out.2 (by omega)
        obtain⟨b2,o2,rfl,hc2⟩:=H2.out.2 (by omega)
        have hk1:=hc1 k hlt
        have hk2:=hc2 k hlt
        clear hc1 hc2
        obtain⟨x,hx⟩:∃x,x=l.getD k 0:=⟨_,rfl⟩
        obtain⟨y,hy⟩:∃y,y=t.getD k 0:=⟨_,rfl⟩
        rw[←hx]at hk1
        rw[←hy]at hk2
        have HX:=Lib.hid hx
        have HY:=Lib.hid hy
        clear hx hy
        have hkl:k<l.length:=by rw[H1.out.1];exact hlt
        by_cases c1:y<0
        · obtain⟨f1,f2⟩:=ofB_in (t:=t) hkl (.inl (by rw[←HY.out];exact c1))
          obtain rfl:b=false:=HB.out.trans f1
          obtain rfl:v=0:=HV.out.trans f2
          clear f1 f2
          go_wp2_with fail
          go_ret2
          exact⟨rfl,SDrawn.refl _⟩
        by_cases c2:x≤y
        · obtain⟨f1,f2⟩:=ofB_in (t:=t) hkl (.inr (by rw[←HY.out,←HX.out];exact c2))
          obtain rfl:b=false:=HB.out.trans f1
          obtain rfl:v=0:=HV.out.trans f2
          clear f1 f2
          go_wp2_with fail
          go_ret2
          exact⟨rfl,SDrawn.refl _⟩
        · have hst:=HI.out.step HM.out hkl (by rw[←HY.out];omega) (by rw[←HY.out,←HX.out];omega)
          rw[←HX.out,←HY.out]at hst
          have HT:=Lib.hid hst
          clear hst
          go_wp2_with fail
          go_round
          case rel=>exact⟨k+1,_,by go_num,rfl,by omega,HT.out⟩
          case measure=>simp[intOf];omega
      · have e2:¬(k:Int)<(m:Int):=by omega
        obtain rfl:k=m:=by omega
        obtain⟨f1,f2⟩:=(show OfInv l t l.length z by rw[H1.out.1];exact HI.out).ends HM.out HL.out
        obtain rfl:b=true:=HB.out.trans f1
        obtain rfl:v=z:=HV.out.trans f2
        clear f1 f2
        go_wp2_with fail
        go_ret2
        exact⟨rfl,SDrawn.refl _⟩
   · obtain⟨f1,f2⟩:=ofB_bad (l:=l) (t:=t) (.inr (by rw[H1.out.1,H2.out.1];omega))
     obtain rfl:b=false:=HB.out.trans f1
     obtain rfl:v=0:=HV.out.trans f2
     clear f1 f2
     have e2:(m:Int)≠(n:Int):=by omega
     go_enter Tryz.func159,Tryz.ntmps159
     go_wp2_with fail
     refine K.out.mono ?_
     rintro x w1 ⟨rfl,rfl⟩
     go_wp2_with fail
     go_ret2
     exact⟨rfl,SDrawn.refl _⟩
 · obtain⟨f1,f2⟩:=ofB_bad (l:=l) (t:=t) (.inl he)
   obtain rfl:b=false:=HB.out.trans f1
   obtain rfl:v=0:=HV.out.trans f2
   clear f1 f2
   rw[show(szE l==0)=false from beq_eq_false_iff_ne.2 he]at hmay
   have K:=Lib.hid hmay
   clear hmay he
   go_enter Tryz.func159,Tryz.ntmps159
   go_wp2_with fail
   refine K.out.mono ?_
   rintro x w1 ⟨rfl,rfl⟩
   go_wp2_with fail
   go_ret2
   exact⟨rfl,SDrawn.refl _⟩
end
section
open Go.RowKit
end
section
open Go.RowKit
theorem infoInt:(Tryz.prog.info? 3).map (fun i=>(i.zero,i.size,i.bytes))=some (some (.int .i64 0),1,8):=by kernel_rfl
def supd (F:Nat→Int) (i:Nat) (x:Int):Nat→Int:=fun j=>if j=i then x else F j
theorem SRw.frozen {w:World} {g N:Nat} {F:Nat→Int} (h:SRw w g N F) (i:Nat):w.frozen? ⟨g,i,none⟩=false:=World.rowIs.frozen h i
theorem SRw.set {w:World} {g N:Nat} {F:Nat→Int} (h:SRw w g N F) (i:Nat) (v:Int):SRw (w.setCell ⟨g,i,none⟩ (.int .i64 v)) g N (supd F i v):=by
 refine(World.rowIs.set h i _).congr fun j _=> ?_
 unfold supd
 split<;>rfl
theorem SRw.made (w:World) (n:Nat):SRw (w.alloc (.cells (madeCells #[.int .i64 0] n) 3)) w.heap.size n (fun _=>0):=World.rowIs_made w _ n _
def plB (l:List Int) (k:Int):Bool:=decide (szE l=0)&&(decide (0≤k)&&decide (k<pr l))
def plO (l:List Int) (k:Int):List Int:=if plB l k then plL l k else[]
theorem plB_no {l:List Int} {k:Int} (h:szE l≠0∨k<0∨pr l≤k):plB l k=false∧plO l k=[]:=by
 have e:plB l k=false:=by
  unfold plB
  rcases h with h|h|h
  · rw[decide_eq_false h];rfl
  · rw[decide_eq_false (show¬0≤k by omega)];simp
  · rw[decide_eq_false (show¬k<pr l by omega)];simp
 exact⟨e,by unfold plO;rw[e];rfl⟩
theorem plB_yes {l:List Int} {k:Int} (h:szE l=0) (h0:0≤k) (h1:k<pr l):plB l k=true∧plO l k=plL l k:=by
 have e:plB l k=true:=by unfold plB;rw[decide_eq_true h,decide_eq_true h0,decide_eq_true h1];rfl
 exact⟨e,by unfold plO;rw[e];rfl⟩
end
section
open Go.RowKit
end
section
open Go.RowKit
def mtE (l k:List Int):Int:=if(l==k)=true∨k.length=0 then 0 else if l.length=0 then 0 else 4
def mtV (l k:List Int):List Int:=if(l==k)=true∨k.length=0 then l else if l.length=0 then k else[]
def MtPost (l:List Int) (e:Int) (W:World) (x:Ending) (W':World):Prop:=∃a' n' c',x=.returned (.tuple #[.slice a' n' c',.int .i64 e])∧Sl W' a' n' l∧n'≤20∧Below W.heap.size W W'
theorem Meet_is (a1 a2:Option Addr) (n c m d:Nat) (l k:List Int) (W:World) (h1:Sl W a1 n l) (h2:Sl W a2 m k) (hn:n≤20) (hm:m≤20):
 Calls Tryz.prog 187 #[.slice a1 n c,.slice a2 m d] W (MtPost (mtV l k) (mtE l k) W):=by
 have K:=Lib.hid (Same_is a1 a2 n c m d l k W h1 h2 (by omega) (by omega))
 have hl:=h1.1
 have hk:=h2.1
 have HL:=Lib.hid (And.intro hl hk)
 have H1:=Lib.hid h1
 have H2:=Lib.hid h2
 have C1:=Lib.hid (fun w (hw:Below W.heap.size W w)=>Clone_is a1 n c l w (h1.below hw) hn)
 have C2:=Lib.hid (fun w (hw:Below W.heap.size W w)=>Clone_is a2 m d k w (h2.below hw) hm)
 obtain⟨b,hb⟩:∃b,b=(l==k):=⟨_,rfl⟩
 rw[←hb]at K
 have HB:=Lib.hid hb
 clear hb h1 h2 hl hk
 by_cases c1:b=true
 · subst c1
   have e1:mtE l k=0:=if_pos (.inl HB.out.symm)
   have e2:mtV l k=l:=if_pos (.inl HB.out.symm)
   rw[e1,e2]
   clear e1 e2
   go_enter Tryz.func187,Tryz.ntmps187
   go_wp2_with fail
   refine K.out.mono ?_
   rintro x w1 ⟨rfl,hb1⟩
   go_wp2_with fail
   refine(C1.out _ hb1).mono ?_
   rintro x w2 ⟨a',n',c',rfl,hs,hn',hb2⟩
   go_wp2_with fail
   go_ret2
   exact⟨a',n',c',rfl,hs,hn',hb1.trans (hb2.mono hb1.size)⟩
 obtain rfl:b=false:=by simpa using c1
 by_cases c2:m=0
 · subst c2
   have e1:mtE l k=0:=if_pos (.inr HL.out.2)
   have e2:mtV l k=l:=if_pos (.inr HL.out.2)
   rw[e1,e2]
   clear e1 e2
   go_enter Tryz.func187,Tryz.ntmps187
   go_wp2_with fail
   refine K.out.mono ?_
   rintro x w1 ⟨rfl,hb1⟩
   go_wp2_with fail
   refine(C1.out _ hb1).mono ?_
   rintro x w2 ⟨a',n',c',rfl,hs,hn',hb2⟩
   go_wp2_with fail
   go_ret2
   exact⟨a',n',c',rfl,hs,hn',hb1.trans (hb2.mono hb1.size)⟩
 have c2':(m:Int)≠0:=by omega
 have hno:¬((l==k)=true∨k.length=0):=by
  rintro(h|h)
  · rw[←HB.out]at h;cases h
  · have:=HL.out.2;omega
 by_cases c3:n=0
 · subst c3
   have e1:mtE l k=0:=by unfold mtE;rw[if_neg hno,if_pos HL.out.1]
   have e2:mtV l k=k:=by unfold mtV;rw[if_neg hno,if_pos HL.out.1]
   rw[e1,e2]
   clear e1 e2 hno
   go_enter Tryz.func187,Tryz.ntmps187
   go_wp2_with fail
   refine K.out.mono ?_
   rintro x w1 ⟨rfl,hb1⟩
   go_wp2_with fail
   refine(C2.out _ hb1).mono ?_
   rintro x w2 ⟨a',n',c',rfl,hs,hn',hb2⟩
   go_wp2_with fail
   go_ret2
   exact⟨a',n',c',rfl,hs,hn',hb1.trans (hb2.mono hb1.size)⟩
 have c3':(n:Int)≠0:=by omega
 have e1:mtE l k=4:=by unfold mtE;rw[if_neg hno,if_neg (by rw[HL.out.1];exact c3)]
 have e2:mtV l k=[]:=by unfold mtV;rw[if_neg hno,if_neg (by rw[HL.out.1];exact c3)]
 rw[e1,e2]
 clear e1 e2 hno
 go_enter Tryz.func187,Tryz.ntmps187
 go_wp2_with fail
 refine K.out.mono ?_
 rintro x w1 ⟨rfl,hb1⟩
 go_wp2_with fail
 go_ret2
 exact⟨none,0,0,rfl,Sl.nil _ _,by omega,hb1⟩
theorem rItems_is (a:Option Addr) (n c:Nat) (l:List Int) (W:World) (h:Sl W a n l) (hn:n≤20) (hc:n≤c) (hc2:c≤maxLen):
 Calls Tryz.prog 67 #[.slice a n c] W (ItPost (itV l) l.tail W):=by
 unfold maxLen at hc2
 by_cases h0:n=0
 · subst h0
   obtain rfl:=List.length_eq_zero_iff.1 h.1
   have HS:=Lib.hid h
   clear h
   rw[show itV []=1 from rfl,List.tail_nil]
   go_enter Tryz.func67,Tryz.ntmps67
   go_wp2_with fail
   go_ret2
   exact⟨none,0,0,rfl,Sl.nil _ _,by omega,Below.refl _ _⟩
 · obtain⟨b,off,rfl,hcell⟩:=h.2 (by omega)
   have HT:=Lib.hid (h.tail (by omega))
   have hv:itV l=l.getD 0 0:=if_neg (by rw[h.1];exact h0)
   rw[hv]
   have hc0:=hcell 0 (by omega)
   rw[Nat.add_zero]at hc0
   generalize l.getD 0 0=v at hc0 ⊢
   clear hv hcell h
   have e1:(n:Int)≠0:=by omega
   have e2:(0:Int)<n:=by omega
   by_cases h1:c=1
   · subst h1
     obtain rfl:n=1:=by omega
     have HT0:Hid (∀w a,Sl w a (1-1) l.tail):=Lib.hid fun w a=>⟨HT.out.1,fun h=>by omega⟩
     go_enter Tryz.func67,Tryz.ntmps67
     go_wp2_with fail
     go_quiet (fail)
     go_wp2_with fail
     go_ret2
     exact⟨_,1-1,_,rfl,HT0.out _ _,by omega,SDrawn.below ⟨_,rfl⟩⟩
   · go_enter Tryz.func67,Tryz.ntmps67
     go_wp2_with fail
     go_quiet (fail)
     go_wp2_with fail
     go_ret2
     exact⟨_,n-1,_,rfl,HT.out,by omega,SDrawn.below ⟨_,rfl⟩⟩
end
end Go.Proofs.YtbijncndjlmmdaaGreatDoor
namespace Go.Proofs.YtbijncndjlmmdaaGreatDoor
set_option linter.unusedVariables false
set_option linter.unusedSimpArgs false
open Go.RowKit
theorem mtE_is (l k:List Int):mtE l k=meE l k:=by
 unfold mtE meE
 by_cases h:l=k
 · subst h;simp
 · have h':(l==k)=false:=beq_eq_false_iff_ne.2 h
   rw[h']
   by_cases h1:k=[]<;>by_cases h2:l=[]<;>simp_all
theorem mtV_is (l k:List Int):mtV l k=meV l k:=by
 unfold mtV meV
 by_cases h:l=k
 · subst h;simp
 · have h':(l==k)=false:=beq_eq_false_iff_ne.2 h
   rw[h']
   by_cases h1:k=[]<;>by_cases h2:l=[]<;>simp_all
theorem ais_none:AIs [] [] none:=by show mayV [] []=false;decide
theorem mayL_S {x:Int} (h:x.natAbs<lim):mayL (S x).data.toList=true:=by
 have hi:Is (S x) (some x):=⟨rfl,h⟩
 exact hi.may
theorem ais_of {l xs:List Int} (h:szE l=0) (hl:(xs.length:Int)=pr l) (hb:∀x∈xs,x.natAbs<lim):AIs l (xs.map S) (some (l,xs)):=by
 refine⟨rfl,rfl,⟨h,by rw[List.length_map];exact hl,fun j hj=> ?_⟩,hb⟩
 rw[List.length_map]at hj
 rw[List.getD_eq_getElem?_getD,List.getElem?_map,List.getElem?_eq_getElem hj]
 exact mayL_S (hb _ (List.getElem_mem hj))
theorem AIs.len {l:List Int} {es:List ByteArray} {q:Ar} (h:AIs l es (some q)):q.1=l∧es.length=q.2.length∧szE l=0∧(q.2.length:Int)=pr l∧∀x∈q.2,x.natAbs<lim:=by
 obtain⟨h1,h2,h3,h4⟩:=h
 have e:es.length=q.2.length:=by rw[h2,List.length_map]
 exact⟨h1,e,h3.e,by rw[←e];exact h3.len,h4⟩
theorem dyA_is {k:Nat} {l m:List Int} {es fs:List ByteArray} {o p:Option Ar} (h1:AIs l es o) (h2:AIs m fs p):AIs (TS (dyA k o p).1).1 (TS (dyA k o p).1).2 (dyA k o p).1:=by
 rcases dyA_end k o p with⟨_,h⟩|⟨h,_⟩
 · by_cases hk:k<11
   · cases o with
     |none=>cases h
     |some a=>
     cases p with
     |none=>cases h
     |some b=>
     obtain⟨a1,xs⟩:=a
     obtain⟨b1,ys⟩:=b
     obtain⟨g1,_,g3,g4,g5⟩:=h1.len
     obtain⟨f1,_,f3,f4,f5⟩:=h2.len
     simp only at g1 g4 g5 f1 f4 f5
     subst g1 f1
     by_cases hm:meE a1 b1=0
     · rw[dyA_two hk hm]at h ⊢
       generalize hs:spL k _=r at h ⊢
       obtain⟨u,e⟩:=r
       cases u with
       |none=>cases h
       |some zs=>
        have hz:szE (meV a1 b1)=0:=by
         unfold meV
         split
         · exact g3
         · split
           · exact f3
           · exact(by decide:szE []=0)
        refine ais_of hz ?_ (spL_bd hs (prs_bd g5 f5))
        rw[spL_len hs,prs_length,prD_is,Int.toNat_of_nonneg (may_pr hz).1]
        rfl
     · rw[dyA_shape hk hm]at h;cases h
   · rw[dyA_none hk]at h;cases h
 · rw[h];exact ais_none
theorem mnZ_bd {k:Nat} (hk:k<3) {x:Int} (h:x.natAbs<lim):(mnZ k x).natAbs<lim:=mnI_bd (k:=k) h _ (by rw[mnI_ok hk])
theorem mnA_is {k:Nat} {l:List Int} {es:List ByteArray} {o:Option Ar} (h:AIs l es o):AIs (TS (mnA k o).1).1 (TS (mnA k o).1).2 (mnA k o).1:=by
 cases o with
 |none=>exact ais_none
 |some a=>
  obtain⟨a1,xs⟩:=a
  obtain⟨g1,_,g3,g4,g5⟩:=h.len
  simp only at g1 g4 g5
  subst g1
  by_cases hk:k<3
  · have e:mnA k (some (a1,xs))=(some (a1,xs.map (mnZ k)),0):=by simp only[mnA];rw[if_neg (by omega)]
    rw[e]
    refine ais_of g3 (by rw[List.length_map];exact g4) fun z hz=> ?_
    obtain⟨x,hx,rfl⟩:=List.mem_map.1 hz
    exact mnZ_bd hk (g5 x hx)
  · have e:mnA k (some (a1,xs))=(none,1):=by simp only[mnA];rw[if_pos hk]
    rw[e];exact ais_none
end Go.Proofs.YtbijncndjlmmdaaGreatDoor
namespace Go.Proofs.YtbijncndjlmmdaaGreatDoor
set_option linter.unusedVariables false
set_option linter.unusedSimpArgs false
open Go.RowKit
theorem spL_snoc {k:Nat} {ps:List (Int×Int)} {q:Int×Int} {l:List Int} {z:Int} (h:spL k ps=(some l,0)) (hq:dyI k q.1 q.2=(some z,0)):spL k (ps++[q])=(some (l++[z]),0):=by
 induction ps generalizing l with
 |nil=>
  cases h
  show spL k [q]=_
  unfold spL
  rw[hq];rfl
 |cons p r ih=>
  obtain⟨o,c,hd⟩:∃o c,dyI k p.1 p.2=(o,c):=⟨_,_,rfl⟩
  obtain⟨o',c',hs⟩:∃o c,spL k r=(o,c):=⟨_,_,rfl⟩
  unfold spL at h
  rw[hd]at h
  cases o with
  |none=>simp at h
  |some x=>
   simp only[hs]at h
   cases o' with
   |none=>simp at h
   |some l'=>
    simp only[Prod.mk.injEq,Option.some.injEq,and_true]at h
    subst h
    have hc:=(spL_ok hs).1
    subst hc
    rw[List.cons_append]
    unfold spL
    rw[hd,ih hs];rfl
theorem spL_stop {k:Nat} {ps r:List (Int×Int)} {q:Int×Int} {l:List Int} {e:Int} (h:spL k ps=(some l,0)) (hq:dyI k q.1 q.2=(none,e)):spL k (ps++q::r)=(none,e):=by
 induction ps generalizing l with
 |nil=>
  show spL k (q::r)=_
  unfold spL
  rw[hq]
 |cons p t ih=>
  obtain⟨o,c,hd⟩:∃o c,dyI k p.1 p.2=(o,c):=⟨_,_,rfl⟩
  obtain⟨o',c',hs⟩:∃o c,spL k t=(o,c):=⟨_,_,rfl⟩
  unfold spL at h
  rw[hd]at h
  cases o with
  |none=>simp at h
  |some x=>
   simp only[hs]at h
   cases o' with
   |none=>simp at h
   |some l'=>
    have hc:=(spL_ok hs).1
    subst hc
    rw[List.cons_append]
    unfold spL
    rw[hd,ih hs]
def SpI (k:Nat) (ps:List (Int×Int)) (i:Nat) (zs:List Int):Prop:=spL k (ps.take i)=(some zs,0)
theorem SpI.start (k:Nat) (ps:List (Int×Int)):SpI k ps 0 []:=rfl
theorem SpI.step {k i:Nat} {ps:List (Int×Int)} {zs:List Int} {z:Int} (h:SpI k ps i zs) (hi:i<ps.length) (hz:dyI k (ps.getD i (0,0)).1 (ps.getD i (0,0)).2=(some z,0)):SpI k ps (i+1) (zs++[z]):=by
 unfold SpI
 rw[List.take_succ_eq_append_getElem hi]
 rw[List.getD_eq_getElem?_getD,List.getElem?_eq_getElem hi]at hz
 exact spL_snoc h hz
theorem SpI.stop {k i:Nat} {ps:List (Int×Int)} {zs:List Int} {e:Int} (h:SpI k ps i zs) (hi:i<ps.length) (hz:dyI k (ps.getD i (0,0)).1 (ps.getD i (0,0)).2=(none,e)):spL k ps=(none,e):=by
 have e1:ps=ps.take i++ps[i]::ps.drop (i+1):=by
  rw[←List.drop_eq_getElem_cons hi,List.take_append_drop]
 rw[List.getD_eq_getElem?_getD,List.getElem?_eq_getElem hi]at hz
 rw[e1]
 exact spL_stop h hz
theorem SpI.ends {k:Nat} {ps:List (Int×Int)} {zs:List Int} (h:SpI k ps ps.length zs):spL k ps=(some zs,0):=by
 unfold SpI at h
 rwa [List.take_of_length_le (Nat.le_refl _)]at h
theorem prs_getD {u v:Bool} {xs ys:List Int} {n i:Nat} (h:i<n):(prs u v xs ys n).getD i (0,0)=(xs.getD (if u then 0 else i) 0,ys.getD (if v then 0 else i) 0):=by
 have hl:i<(prs u v xs ys n).length:=by rw[prs_length];exact h
 rw[List.getD_eq_getElem?_getD,List.getElem?_eq_getElem hl]
 exact prs_get hl
theorem getD_S {xs:List Int} {j:Nat} (hj:j<xs.length):(xs.map S).getD j ByteArray.empty=S (xs.getD j 0):=by
 simp[List.getD_eq_getElem?_getD,List.getElem?_eq_getElem hj]
theorem getD_bd {xs:List Int} (h:∀x∈xs,x.natAbs<lim) (j:Nat):(xs.getD j 0).natAbs<lim:=by
 rw[List.getD_eq_getElem?_getD]
 cases e:xs[j]? with
 |none=>simp;exact lim_pos
 |some x=>exact h x (List.mem_of_getElem? e)
def TxOut (s:ByteArray) (W:World) (e:Ending) (W':World):Prop:=e=.returned (.string s)∧Below W.heap.size W W'
theorem element_is {a b:Option Addr} {n c m d:Nat} {l:List Int} {es:List ByteArray} (W:World) (h:Vl W a n b m l es) (i:Nat) (hi:(if nx l then 0 else i)<m):
 Calls Tryz.prog 214 #[.agg #[.slice a n c,.slice b m d],.int .i64 i] W (TxOut (es.getD (if nx l then 0 else i) ByteArray.empty) W):=by
 have hx:=Bx.new W a n c b m d
 have hbl:Below W.heap.size W (W.alloc (.cells #[.slice a n c,.slice b m d] 25)):=(Below.refl _ _).alloc (Nat.le_refl _) _
 have hv:=h.below hbl
 have hmm:=h.mm
 obtain⟨gb,off,rfl,hc⟩:=hv.t.2 (by omega)
 have hck:=hc _ hi
 have hln:=h.s.1
 have x0:=hx.c0
 have x1:=hx.c1
 have HB:=Lib.hid hbl
 by_cases h0:n=0
 · subst h0
   obtain rfl:=List.length_eq_zero_iff.1 hln
   have e:(if nx []then 0 else i)=0:=rfl
   rw[e]at hck hi ⊢
   rw[Nat.add_zero]at hck
   generalize es.getD 0 ByteArray.empty=s at hck ⊢
   clear hv h hc hln hbl hx e
   go_enter Tryz.func214,Tryz.ntmps214
   go_wp2_with fail
   go_ret
   exact⟨rfl,HB.out⟩
 · have e:(if nx l then 0 else i)=i:=by
    have:nx l=false:=decide_eq_false (by rintro rfl;exact h0 hln.symm)
    rw[this];rfl
   rw[e]at hck hi ⊢
   generalize es.getD i ByteArray.empty=s at hck ⊢
   have e1:¬(n:Int)=0:=by omega
   have e2:(i:Int)<(m:Int):=by omega
   clear hv h hc hln hbl hx e
   go_enter Tryz.func214,Tryz.ntmps214
   go_wp2_with fail
   go_ret
   exact⟨rfl,HB.out⟩
def sigL (l:List UInt8) (sg:List UInt8):Bool:=match l with
 |[c]=>decide (c∈sg)
 |_=>false
theorem sig_kd (l:List UInt8):sigL l [43,45,42,37,33,38,124,60,62,61,126]=decide (kdL l<11):=by
 rcases kdL_inv (l:=l) rfl with⟨h,e⟩|⟨h,e⟩|⟨h,e⟩|⟨h,e⟩|⟨h,e⟩|⟨h,e⟩|⟨h,e⟩|⟨h,e⟩|⟨h,e⟩|⟨h,e⟩|⟨h,e⟩|⟨h,n1,n2,n3,n4,n5,n6,n7,n8,n9,n10,n11⟩
 all_goals try(subst e;decide)
 rw[h]
 unfold sigL
 split
 · simp_all
 · rfl
theorem sig_km (l:List UInt8):sigL l [45,126,42]=decide (kmL l<3):=by
 rcases kmL_inv (l:=l) rfl with⟨h,e⟩|⟨h,e⟩|⟨h,e⟩|⟨h,n1,n2,n3⟩
 all_goals try(subst e;decide)
 rw[h]
 unfold sigL
 split
 · simp_all
 · rfl
theorem idx_mem (l:List UInt8) (c:UInt8):(0≤Lib.indexByte l c)↔c∈l:=by
 induction l with
 |nil=>simp[Lib.indexByte]
 |cons x a ih=>
  unfold Lib.indexByte
  by_cases h:x=c
  · subst h;simp
  · have hx:(x==c)=false:=beq_false_of_ne h
    have hc:c≠x:=fun e=>h e.symm
    simp only[hx,List.mem_cons,hc,false_or]
    rw[←ih]
    by_cases h1:Lib.indexByte a c= -1
    · simp[h1]
    · have h2:(Lib.indexByte a c== -1)=false:=beq_false_of_ne h1
      simp only[h2]
      have:=Lib.indexByte_ge a c
      simp;omega
theorem isSign_is (s m:ByteArray) (hz:s.size≤maxLen) (w:World):Calls Tryz.prog 196 #[.string s,.string m] w (BoolEnd (sigL s.data.toList m.data.toList) w):=by
 unfold maxLen at hz
 rcases hl:s.data.toList with _|⟨c,_|⟨d,r⟩⟩
 · have hs:s.data.toList.length=s.size:=by simp
   have e2:¬(s.size:Int)=1:=by rw[←hs,hl];simp
   rw[show sigL [] m.data.toList=false from rfl]
   clear hl hs
   go_enter Tryz.func196,Tryz.ntmps196
   go_wp2_with fail
   go_ret
   exact⟨rfl,Below.refl _ _⟩
 · obtain rfl:s=⟨#[c]⟩:=by
    obtain⟨⟨d⟩⟩:=s
    have hl:d=[c]:=hl
    rw[hl]
   have K:=Tryz.strings_Contains_one m c w
   rw[show decide (0≤Lib.indexByte m.data.toList c)=sigL [c] m.data.toList from decide_eq_decide.2 (idx_mem _ _)]at K
   generalize sigL [c] m.data.toList=v at*
   replace K:=Lib.hid K
   clear hl
   cases v
   all_goals
    go_enter Tryz.func196,Tryz.ntmps196
    go_wp2_with fail
    refine K.out.mono ?_
    rintro e w1 ⟨rfl,rfl⟩
    go_wp2_with fail
    go_ret
    exact⟨rfl,Below.refl _ _⟩
 · have hs:s.data.toList.length=s.size:=by simp
   have e2:¬(s.size:Int)=1:=by rw[←hs,hl];simp;omega
   rw[show sigL (c::d::r) m.data.toList=false from rfl]
   clear hl hs
   go_enter Tryz.func196,Tryz.ntmps196
   go_wp2_with fail
   go_ret
   exact⟨rfl,Below.refl _ _⟩
theorem Ops_is (op:ByteArray) (ho:op.size≤maxLen) (w:World) (hw:SC w):Calls Tryz.prog 186 #[.string op] w (BoolEnd (decide (kdL op.data.toList<11)) w):=by
 have K1:=Lib.hid (ds_ok w hw)
 have K2:=fun w'=>isSign_is op ⟨#[43,45,42,37,33,38,124,60,62,61,126]⟩ ho w'
 rw[show(⟨#[43,45,42,37,33,38,124,60,62,61,126]⟩:ByteArray).data.toList=[43,45,42,37,33,38,124,60,62,61,126]from rfl,sig_kd]at K2
 replace K2:=Lib.hid K2
 generalize decide (kdL op.data.toList<11)=v at*
 clear ho
 go_enter Tryz.func186,Tryz.ntmps186
 go_wp2_with fail
 refine K1.out.mono ?_
 rintro e w1 ⟨rfl,hb⟩
 go_wp2_with fail
 refine(K2.out _).mono ?_
 rintro e w2 ⟨rfl,hq⟩
 go_wp2_with fail
 go_ret
 exact⟨rfl,hb.trans (hq.mono hb.size)⟩
end Go.Proofs.YtbijncndjlmmdaaGreatDoor
namespace Go.Proofs.YtbijncndjlmmdaaGreatDoor
set_option linter.unusedVariables false
set_option linter.unusedSimpArgs false
open Go.RowKit
def RoundEnd (Kp:World→World→Prop) (I Ix:World→Prop) (W:World):Exit→Act→World→Prop
 | .normal,_,W'=>KeepsOthers W W'∧Kp W W'∧I W'
 | .ret,_,W'=>KeepsOthers W W'∧Ix W'
 | .exit _,_,_=>False
 | .goto _,_,_=>False
 | .panic _,_,_=>False
 | .outgrown,_,_=>False
def Gives (F:Fence) (n:Nat) (P:Program) (gf:Nat) (lb:Array Value) (encs:Nat→Array Value) (B N:Nat) (Kp:World→World→Prop) (w:World):Prop:=
 ∀(l:Nat) (J:Nat→World→Prop) (Jx:World→Prop) (W:World),Below w.heap.size w W→(∀k A A',J k A→A.grownBy A' (some B)→J k A')→
  (∀k W1,k<N→J k W1→YieldAt F (n-1) P l (encs k) W1 fun e W'=>(e=.returned (.bool true)∧J (k+1) W'∧Kp W1 W')∨(e=.returned (.bool false)∧Jx W'))→
  J 0 W→CallsIn F n P gf (#[.func (.yield l) #[] #[]]++lb) W fun e W'=>(∃v,e=.returned v)∧(J N W'∨Jx W')
structure Abs (S B:Nat) (I:World→Prop):Prop where
 own:∀A A',I A→A.grownBy A' (some B)→I A'
 put:∀A l o o',I A→S≤l→A.heap[l]?=some o→o.isCells=false→I (A.putObj l o')
theorem grown_alloc (A:World) (o:Obj) (B:Nat):A.grownBy (A.alloc o) (some B):=World.grownBy_alloc A o (some B)
theorem grown_heap {A A':World} {B l:Nat} {o:Obj} (h:A.grownBy A' (some B)) (hl:A.heap[l]?=some o) (hne:l≠B):A'.heap[l]?=some o:=
 (h.block l (Array.getElem?_eq_some_iff.1 hl).1 (fun e=>hne (Option.some.inj e))).trans hl
variable {F:Fence} {n:Nat} {P:Program}
theorem range_gives {g:Operand} {ps:Array Tmp} {assign body:Code} {Q:Exit→Act→World→Prop} {a:Act} {w:World}
 (hro:F.round=none) (h1:1≤n) {gf:Nat} {lb:Array Value} (hg:a.eval g=.func (.func gf) #[] lb) (hFg:F.fn gf) (eg:∀args w,(callFunc gf args).run P w=.ok (.enter gf args) w)
 {encs:Nat→Array Value} {B N:Nat} {Kp:World→World→Prop} (hseq:Gives F (n-1) P gf lb encs B N Kp w) (hB:B<w.heap.size)
 (hKt:∀X Y Z,Kp X Y→Kp Y Z→Kp X Z) (hKb:∀X l o,w.heap.size≤l→Kp X (X.putObj l o)) (hps:∀k,(encs k).size=ps.size)
 (I:Nat→World→Prop) (Ix:World→Prop) (hI:∀k,Abs w.heap.size B (I k)) (hIx:Abs w.heap.size B Ix) (h0:I 0 w) (a1:Nat→Act)
 (hassign:∀(l k:Nat) (W:World) (K:Act→World→Prop),K (a1 k) W→
   assign.wpIn (F.inRound l) (n-1-1) P (Exit.then K (fun _ _ _=>False)) {tmps:=(ps.zip (encs k)).foldl (fun t (p,v)=>t.setIfInBounds p v) a.tmps,defers:=[]} W)
 (hbody:∀(l k:Nat) (W:World),k<N→I k W→body.wpIn (F.inRound l) (n-1-1) P (RoundEnd Kp (I (k+1)) Ix W) (a1 k) W)
 (hdone:∀(D:Nat) (W:World),w.heap.size≤D→I N W→W.heap[D]?=some (.deferred (some []))→Q .normal {a with defers:={target:=.collected D,args:=#[]}::a.defers} W)
 (hstop:∀(D:Nat) (W:World),w.heap.size≤D→Ix W→W.heap[D]?=some (.deferred (some []))→Code.ret.wpIn F n P Q {a with defers:={target:=.collected D,args:=#[]}::a.defers} W):
 (Code.rangeFunc g ps assign body).wpIn F n P Q a w:=by
 refine wpIn_rangeFunc fun fn hfn=> ?_
 rw[hro]
 obtain⟨S,hS⟩:∃S,w.heap.size=S:=⟨_,rfl⟩
 let rec_:LoopState→Option Code→Loop:=fun st pe=>{state:=st,pending:=pe,fn:=fn,tmps:=a.tmps,params:=ps,assign:=assign,body:=body,defers:=w.heap.size}
 obtain⟨R,hR⟩:∃R:LoopState→Option Code→Loop,R=rec_:=⟨_,rfl⟩
 obtain⟨V,hV⟩:∃V,(w.alloc (.deferred (some []))).alloc (.loop (R .ready none))=V:=⟨_,rfl⟩
 have dV:V.heap[S]?=some (.deferred (some [])):=by
  rw[←hV,←hS]
  exact(Below.heap_alloc _ _ _ (by simp)).trans (World.alloc_heap_new w _)
 have lV:V.heap[S+1]?=some (.loop (R .ready none)):=by
  rw[←hV,←hS]
  have:=World.alloc_heap_new (w.alloc (.deferred (some []))) (.loop (R .ready none))
  rwa [World.size_alloc]at this
 have bV:Below w.heap.size w V:=by
  rw[←hV]
  exact((Below.refl _ w).alloc (Nat.le_refl _) _).alloc (by simp) _
 have iV:I 0 V:=by
  rw[←hV]
  exact(hI 0).own _ _ ((hI 0).own _ _ h0 (grown_alloc _ _ _)) (grown_alloc _ _ _)
 refine⟨S+1,[{target:=.collected S,args:=#[]}],V,{target:=.fn (.func gf) lb,args:=#[.func (.yield (S+1)) #[] #[]]},V,gf,#[.func (.yield (S+1)) #[] #[]]++lb,V,?_,?_,?_,?_,fun _=>h1,?_⟩
 · rw[←hV,←hS,hR]
   exact run_enterLoop_outer _ _ _ _ _
 · simp only[resolve,hg]
   simp[go_sem]
 · intro f' hf'
   simp[Target.leads]at hf'
   subst hf'
   exact hFg
 · simp[invoke,go_sem,eg]
 have hBS:B≠S∧B≠S+1:=by omega
 refine(hseq (S+1) (fun k W=>I k W∧W.heap[S]?=some (.deferred (some []))∧W.heap[S+1]?=some (.loop (R .ready none)))
  (fun W=>Ix W∧W.heap[S]?=some (.deferred (some []))∧W.heap[S+1]?=some (.loop (R .done (some .ret)))) V bV
  (fun k A A' h hg=>⟨(hI k).own _ _ h.1 hg,grown_heap hg h.2.1 hBS.1.symm,grown_heap hg h.2.2 hBS.2.symm⟩) ?_ ⟨iV,dV,lV⟩).mono ?_
 · rintro k X hk ⟨iX,dX,lX⟩
   have hlt:S+1<X.heap.size:=(Array.getElem?_eq_some_iff.1 lX).1
   have hy:=run_yield (P:=P) (args:=encs k) lX (by rw[hR];exact hps k)
   rw[hR]at hy
   refine⟨fn,_,assign,body,hy,roundIn_of_wpIn hfn (hassign _ k X _ ⟨_,run_beginRound lX (by rw[hR]),?_⟩)⟩
   obtain⟨Y,hY⟩:∃Y,X.putObj (S+1) (.loop {R .ready none with state:=.busy})=Y:=⟨_,rfl⟩
   have lY:Y.heap[S+1]?=some (.loop {R .ready none with state:=.busy}):=by rw[←hY];exact World.putObj_heap_same hlt
   have dY:Y.heap[S]?=some (.deferred (some [])):=by rw[←hY];exact(World.putObj_heap_other (by omega)).trans dX
   have iY:I k Y:=by rw[←hY];exact(hI k).put _ _ _ _ iX (by omega) lX rfl
   have kY:Kp X Y:=by rw[←hY];exact hKb _ _ _ (by omega)
   rw[hY]
   refine wpIn_mono (hbody _ k Y hk iY) ?_
   have fin:∀(jump:Option Code) (Z:World),KeepsOthers Y Z→(Instr.endRound (S+1) jump).run P Z=.ok (.bool jump.isNone) (Z.putObj (S+1) (.loop (R (if jump.isNone then .ready else .done) jump)))∧
    Z.heap[S+1]?=some (.loop {R .ready none with state:=.busy})∧(Z.putObj (S+1) (.loop (R (if jump.isNone then .ready else .done) jump))).heap[S]?=some (.deferred (some []))∧
    (Z.putObj (S+1) (.loop (R (if jump.isNone then .ready else .done) jump))).heap[S+1]?=some (.loop (R (if jump.isNone then .ready else .done) jump)):=fun jump Z hZ=>by
    have lZ:=hZ.same _ _ lY rfl
    have e:=run_endRound (P:=P) jump lZ
    rw[hR]at e ⊢
    rw[hR]at lZ
    exact⟨e,lZ,(World.putObj_heap_other (by omega)).trans (hZ.same _ _ dY rfl),World.putObj_heap_same (Array.getElem?_eq_some_iff.1 lZ).1⟩
   rintro e a3 Z hp
   cases e with
   |normal=>
    obtain⟨h1,h2,h3⟩:=hp
    obtain⟨hr,lZ,dU,lU⟩:=fin none Z h1
    exact⟨_,_,hr,.inl ⟨rfl,⟨(hI (k+1)).put _ _ _ _ h3 (by omega) lZ rfl,dU,lU⟩,hKt _ _ _ (hKt _ _ _ kY h2) (hKb _ _ _ (by omega))⟩⟩
   |ret=>
    obtain⟨h1,h3⟩:=hp
    obtain⟨hr,lZ,dU,lU⟩:=fin (some .ret) Z h1
    exact⟨_,_,hr,.inr ⟨rfl,hIx.put _ _ _ _ h3 (by omega) lZ rfl,dU,lU⟩⟩
   |exit id=>exact hp.elim
   |goto t=>exact hp.elim
   |panic ch=>exact hp.elim
   |outgrown=>exact hp.elim
 · rintro e Z ⟨⟨v,rfl⟩,(⟨iZ,dZ,lZ⟩|⟨iZ,dZ,lZ⟩)⟩
   · have e:=run_endLoop (P:=P) lZ (by rw[hR];simp[rec_])
     rw[hR]at e
     exact⟨none,_,e,hdone S _ (by omega) ((hI N).put _ _ _ _ iZ (by omega) lZ rfl) ((World.putObj_heap_other (by omega)).trans dZ)⟩
   · have e:=run_endLoop (P:=P) lZ (by rw[hR];simp[rec_])
     rw[hR]at e
     exact⟨some .ret,_,e,hstop S _ (by omega) (hIx.put _ _ _ _ iZ (by omega) lZ rfl) ((World.putObj_heap_other (by omega)).trans dZ)⟩
end Go.Proofs.YtbijncndjlmmdaaGreatDoor

import Derived.Test.YtcfbjdplhgdpfaaGreatDoorMav
import Derived.Maps.AppendAt
import Derived.Laws.OwnMore
import Derived.Deep.RegionLaw
import Derived.Test.YtcfbjdplhgdpfaaGreatDoorMag
import Derived.Test.YtcfbjdplhgdpfaaGreatDoorMas
import Derived.Deep.AppendLies
import Derived.WalkKit
import Derived.WalkSpells
import Derived.WalkLawsBesides
import Derived.Lib.Hide
import Derived.Test.YtcfbjdplhgdpfaaGreatDoorMar
import Derived.BigQuiet
import Derived.Deep.QuietTactic
import Derived.Deep.RegionWith
import Derived.Deep.OwnRows
set_option maxHeartbeats 800000
set_option maxRecDepth 10000
namespace Go.Proofs.YtcfbjdplhgdpfaaGreatDoor
set_option linter.unusedVariables false
set_option linter.unusedSimpArgs false
open Go.RowKit
set_option maxRecDepth 10000
def Rd (w:World) (A:Option Addr) (m:Nat) (news:List Value):Prop:=
 news.length=m∧(0<m→∃b off,A=some ⟨b,off,none⟩∧∀j u,news[j]?=some u→w.cell? ⟨b,off+j,none⟩=some u)
def valsS (es:List ByteArray):List Value:=es.map Value.string
theorem Sl.rd {w:World} {A:Option Addr} {m:Nat} {l:List Int} (h:Sl w A m l):Rd w A m (valsI l):=by
 refine⟨by unfold valsI;rw[List.length_map,h.1],fun hm=> ?_⟩
 obtain⟨b,off,e,hc⟩:=h.2 hm
 refine⟨b,off,e,fun j u hu=> ?_⟩
 unfold valsI at hu
 rw[List.getElem?_map,Option.map_eq_some_iff]at hu
 obtain⟨x,hx,rfl⟩:=hu
 obtain⟨hlt,rfl⟩:=List.getElem?_eq_some_iff.1 hx
 rw[hc j (by rw[←h.1];exact hlt)]
 simp[List.getD_eq_getElem?_getD,List.getElem?_eq_getElem hlt]
theorem St.rd {w:World} {A:Option Addr} {m:Nat} {l:List ByteArray} (h:St w A m l):Rd w A m (valsS l):=by
 refine⟨by unfold valsS;rw[List.length_map,h.1],fun hm=> ?_⟩
 obtain⟨b,off,e,hc⟩:=h.2 hm
 refine⟨b,off,e,fun j u hu=> ?_⟩
 unfold valsS at hu
 rw[List.getElem?_map,Option.map_eq_some_iff]at hu
 obtain⟨x,hx,rfl⟩:=hu
 obtain⟨hlt,rfl⟩:=List.getElem?_eq_some_iff.1 hx
 rw[hc j (by rw[←h.1];exact hlt)]
 simp[List.getD_eq_getElem?_getD,List.getElem?_eq_getElem hlt]
theorem valsI_one (l:List Int):∀u∈valsI l,u.oneCell'=true:=by
 intro u hu
 obtain⟨x,_,rfl⟩:=List.mem_map.1 hu
 rfl
theorem valsS_one (l:List ByteArray):∀u∈valsS l,u.oneCell'=true:=by
 intro u hu
 obtain⟨x,_,rfl⟩:=List.mem_map.1 hu
 rfl
theorem own_form {w:World} {base n:Nat} {e:TypeId} {v:Value} {xs:List Value} (h:w.ownsRow base e 1 v n xs):∃a c,v=.slice a n c:=by
 rcases h.2 with⟨rfl,rfl⟩|⟨g,cap,_,rfl,_⟩
 · exact⟨_,_,rfl⟩
 · exact⟨_,_,rfl⟩
theorem own_cells {w:World} {base n:Nat} {e:TypeId} {a:Option Addr} {c:Nat} {xs:List Value} (h:w.ownsRow base e 1 (.slice a n c) n xs) (hn:0<n):∃g,a=some ⟨g,0,none⟩∧base≤g∧(∀j,j<n→w.cell? ⟨g,j,none⟩=xs[j]?)∧∀j,w.frozen? ⟨g,j,none⟩=false:=by
 obtain⟨hl,h⟩:=h
 rw[Nat.mul_one]at hl
 rcases h with⟨_,h0⟩|⟨g,cap,cur,hv,hb,hg,_,_,_,ht⟩
 · omega
 · injection hv with hv _ _
   refine⟨g,hv,hb,fun j hj=> ?_,fun j=>frozen_of_row _ _ j _ _ hg⟩
   rw[Nat.mul_one]at ht
   rw[cell_of_row w g j cur _ _ hg,←Array.getElem?_toList]
   have e:cur.toList[j]?=(cur.toList.take n)[j]?:=by rw[List.getElem?_take_of_lt hj]
   rw[e,ht]
theorem own_sl {w:World} {base n:Nat} {e:TypeId} {a:Option Addr} {c:Nat} {l:List Int} (h:w.ownsRow base e 1 (.slice a n c) n (valsI l)):Sl w a n l:=by
 have hl:l.length=n:=by have:=h.1;unfold valsI at this;rwa [List.length_map,Nat.mul_one]at this
 refine⟨hl,fun hn=> ?_⟩
 obtain⟨g,rfl,_,hc,_⟩:=own_cells h hn
 refine⟨g,0,rfl,fun j hj=> ?_⟩
 rw[Nat.zero_add,hc j hj]
 unfold valsI
 simp[List.getD_eq_getElem?_getD,List.getElem?_eq_getElem (show j<l.length by omega)]
theorem own_st {w:World} {base n:Nat} {e:TypeId} {a:Option Addr} {c:Nat} {l:List ByteArray} (h:w.ownsRow base e 1 (.slice a n c) n (valsS l)):St w a n l:=by
 have hl:l.length=n:=by have:=h.1;unfold valsS at this;rwa [List.length_map,Nat.mul_one]at this
 refine⟨hl,fun hn=> ?_⟩
 obtain⟨g,rfl,_,hc,_⟩:=own_cells h hn
 refine⟨g,0,rfl,fun j hj=> ?_⟩
 rw[Nat.zero_add,hc j hj]
 unfold valsS
 simp[List.getD_eq_getElem?_getD,List.getElem?_eq_getElem (show j<l.length by omega)]
section
variable {w:World}
theorem run_append_void (base:Nat) (t ty e:TypeId) (i:TypeInfo) (ht:Tryz.prog.underlying t=some (.slice e)) (hi:Tryz.prog.info? e=some i)
 (v:Value) (n:Nat) (xs:List Value) (hown:w.ownsRow base e 1 v n xs) (c:Nat):(Builtin.append_ #[t,t] ty #[v,.slice none 0 c]).run Tryz.prog w=.ok v w:=by
 rcases hown.2 with⟨rfl,rfl⟩|⟨g,cap,cur,rfl,_,_,hnc,_⟩
 · simp[Builtin.append_,run_underlying ht,sizeOf,typeInfo,hi,Builtin.lenOf,Builtin.firstCells]
 · simp[Builtin.append_,run_underlying ht,sizeOf,typeInfo,hi,Builtin.lenOf,Builtin.firstCells,hnc,storeCells]
theorem run_append_rd (base:Nat) (t ty e:TypeId) (i:TypeInfo) (z:Value) (bytes:Nat) (ht:Tryz.prog.underlying t=some (.slice e)) (hi:Tryz.prog.info? e=some i) (hz:i.zero=some z)
 (hsize:i.size=1) (hby:i.bytes=bytes) (hzs:z.cells.size=1) (hbb:bytes≤100)
 (v:Value) (n:Nat) (xs:List Value) (hown:w.ownsRow base e 1 v n xs) (A:Option Addr) (m c:Nat) (news:List Value) (hr:Rd w A m news) (h1:∀u∈news,u.oneCell'=true)
 (hnm:n+m≤1000000) (hbase:base≤w.heap.size):
 ∃av cv w',(Builtin.append_ #[t,t] ty #[v,.slice A m c]).run Tryz.prog w=.ok (.slice av (n+m) cv) w'∧w'.ownsRow base e 1 (.slice av (n+m) cv) (n+m) (xs++news)∧w.grownBy w' v.ownBlock:=by
 rcases A with _|ad
 · have hm:m=0:=by
    rcases Nat.eq_zero_or_pos m with h0|h0
    · exact h0
    · obtain⟨b,off,e,_⟩:=hr.2 h0;cases e
   subst hm
   have hn:news=[]:=List.eq_nil_of_length_eq_zero hr.1
   subst hn
   obtain⟨av,cv,rfl⟩:=own_form hown
   refine⟨av,cv,w,run_append_void base t ty e i ht hi _ n xs hown c,?_,World.grownBy.refl w _⟩
   rw[List.append_nil];exact hown
 · have hcells:∀j u,news[j]?=some u→w.cell? (ad.add j)=some u:=by
    intro j u hu
    rcases Nat.eq_zero_or_pos m with h0|h0
    · have hn:news=[]:=List.eq_nil_of_length_eq_zero (by rw[hr.1];exact h0)
      subst hn
      cases hu
    · obtain⟨b,off,e,hc⟩:=hr.2 h0
      injection e with e
      subst e
      rw[Lib.add_plain]
      exact hc j u hu
   have hbn:(n+m)*bytes≤140737488355328:=by
    have:(n+m)*bytes≤1000000*100:=Nat.mul_le_mul hnm hbb
    omega
   obtain⟨v',w',hrun,h2,h3,_,_⟩:=run_append_own_at (P:=Tryz.prog) w base t ty e i z 1 bytes ht hi hz hsize hby hzs (by omega) v n xs hown ad m c news (by rw[Nat.mul_one];exact hr.1) hcells h1 (by unfold maxLen;omega) hbn hbase
   obtain⟨av,cv,rfl⟩:=own_form h2
   exact⟨av,cv,w',hrun,h2,h3⟩
theorem wp_append_rd {o:Oper} {a:Act} {K:Act→World→Prop} {Q:Exit→Act→World→Prop} (s x:Operand) (t:TypeId)
 (ho:o.op=.call {callee:=.builtin .append,args:=#[s,x],argTypes:=#[t,t]})
 (base:Nat) (e:TypeId) (z:Value) (bytes:Nat) (ht:Tryz.prog.underlying t=some (.slice e)) (hinfo:(Tryz.prog.info? e).map (fun i=>(i.zero,i.size,i.bytes))=some (some z,1,bytes)) (hzs:z.cells.size=1) (hbb:bytes≤100)
 (v:Value) (n:Nat) (xs:List Value) (hs:a.eval s=v) (hown:w.ownsRow base e 1 v n xs)
 (A:Option Addr) (m c:Nat) (news:List Value) (hx:a.eval x=.slice A m c) (hr:Rd w A m news) (h1:∀u∈news,u.oneCell'=true)
 (hnm:n+m≤1000000) (hbase:base≤w.heap.size)
 (h:∀av cv w',w'.ownsRow base e 1 (.slice av (n+m) cv) (n+m) (xs++news)→w.grownBy w' v.ownBlock→K (a.put o.dst (.slice av (n+m) cv)) w'):o.wp Tryz.prog a w K Q:=by
 obtain⟨i,hi,hzz⟩:=Option.map_eq_some_iff.1 hinfo
 simp only[Prod.mk.injEq]at hzz
 obtain⟨hz0,hz1,hz2⟩:=hzz
 obtain⟨av,cv,w',hrun,h2,h3⟩:=run_append_rd (w:=w) base t o.type e i z bytes ht hi hz0 hz1 hz2 hzs hbb v n xs hown A m c news hr h1 hnm hbase
 unfold Oper.wp execOp
 simp only[ho,resolve,invoke,builtin,Sem.run_bind,Sem.run_pure,Result.andThen_ok,List.map_toArray,List.map_cons,List.map_nil,hs,hx,hrun]
 exact h av cv w' h2 h3
theorem wpList_append_rd {ops:Array Oper} {rest:List Oper} {o:Oper} {a:Act} {Q:Exit→Act→World→Prop} (hgd:o.guard=none) (s x:Operand) (t:TypeId)
 (ho:o.op=.call {callee:=.builtin .append,args:=#[s,x],argTypes:=#[t,t]})
 (base:Nat) (e:TypeId) (z:Value) (bytes:Nat) (ht:Tryz.prog.underlying t=some (.slice e)) (hinfo:(Tryz.prog.info? e).map (fun i=>(i.zero,i.size,i.bytes))=some (some z,1,bytes)) (hzs:z.cells.size=1) (hbb:bytes≤100)
 (v:Value) (n:Nat) (xs:List Value) (hs:a.eval s=v) (hown:w.ownsRow base e 1 v n xs)
 (A:Option Addr) (m c:Nat) (news:List Value) (hx:a.eval x=.slice A m c) (hr:Rd w A m news) (h1:∀u∈news,u.oneCell'=true)
 (hnm:n+m≤1000000) (hbase:base≤w.heap.size)
 (h:∀av cv w',w'.ownsRow base e 1 (.slice av (n+m) cv) (n+m) (xs++news)→w.grownBy w' v.ownBlock→wpList Tryz.prog ops Q rest (a.put o.dst (.slice av (n+m) cv)) w'):wpList Tryz.prog ops Q (o::rest) a w:=
 wpList_plain hgd fun _ hK=>wp_append_rd s x t ho base e z bytes ht hinfo hzs hbb v n xs hs hown A m c news hx hr h1 hnm hbase fun av cv w' h2 h3=>hK _ _ (h av cv w' h2 h3)
theorem step_append_rd {ops:Array Oper} {o:Oper} {a:Act} {K:Act→World→Prop} {Q:Exit→Act→World→Prop} {E:Prop} (hgd:o.guard=none) (s x:Operand) (t:TypeId)
 (ho:o.op=.call {callee:=.builtin .append,args:=#[s,x],argTypes:=#[t,t]})
 (base:Nat) (e:TypeId) (z:Value) (bytes:Nat) (ht:Tryz.prog.underlying t=some (.slice e)) (hinfo:(Tryz.prog.info? e).map (fun i=>(i.zero,i.size,i.bytes))=some (some z,1,bytes)) (hzs:z.cells.size=1) (hbb:bytes≤100)
 (v:Value) (n:Nat) (xs:List Value) (hs:a.eval s=v) (hown:w.ownsRow base e 1 v n xs)
 (A:Option Addr) (m c:Nat) (news:List Value) (hx:a.eval x=.slice A m c) (hr:Rd w A m news) (h1:∀u∈news,u.oneCell'=true)
 (hnm:n+m≤1000000) (hbase:base≤w.heap.size)
 (h:∀av cv w',w'.ownsRow base e 1 (.slice av (n+m) cv) (n+m) (xs++news)→w.grownBy w' v.ownBlock→K (a.put o.dst (.slice av (n+m) cv)) w'):
 if Region.wanted o (yielded ops a.tmps)=true then Oper.wp Tryz.prog o a w K Q else E:=by
 have hw:Region.wanted o (yielded ops a.tmps)=true:=by simp[Region.wanted,hgd]
 rw[if_pos hw]
 exact wp_append_rd s x t ho base e z bytes ht hinfo hzs hbb v n xs hs hown A m c news hx hr h1 hnm hbase h
end
theorem own_rd {w:World} {B n:Nat} {e:TypeId} {av:Option Addr} {cv:Nat} {xs:List Value} (h:w.ownsRow B e 1 (.slice av n cv) n xs):Rd w av n xs:=by
 have hl:=h.1
 rw[Nat.mul_one]at hl
 refine⟨hl,fun hn=> ?_⟩
 obtain⟨g,rfl,_,hc,_⟩:=own_cells h hn
 refine⟨g,0,rfl,fun j u hu=> ?_⟩
 obtain⟨hlt,_⟩:=List.getElem?_eq_some_iff.1 hu
 rw[Nat.zero_add,hc j (by omega),hu]
theorem grown_below' {B:Nat} {w w':World} {row:Option Nat} (h:w.grownBy w' row) (hg:∀g,row=some g→B≤g) (hB:B≤w.heap.size):Below B w w':=
 ⟨h.os,h.tape,h.output,h.size,fun k hk=>h.block k (by omega) (by intro e;have:=hg k e.symm;omega)⟩
section
variable {w:World}
end
end Go.Proofs.YtcfbjdplhgdpfaaGreatDoor
namespace Go.Proofs.YtcfbjdplhgdpfaaGreatDoor
set_option linter.unusedVariables false
set_option linter.unusedSimpArgs false
open Go.RowKit
set_option maxRecDepth 10000
section
variable {w:World}
end
section
variable {w:World}
end
end Go.Proofs.YtcfbjdplhgdpfaaGreatDoor
namespace Go.Proofs.YtcfbjdplhgdpfaaGreatDoor
set_option linter.unusedVariables false
set_option linter.unusedSimpArgs false
open Go.RowKit
def Stb (P:World→Prop):Prop:=∀w w',P w→Below w.heap.size w w'→P w'
theorem Stb.and {P Q:World→Prop} (h:Stb P) (g:Stb Q):Stb fun w=>P w∧Q w:=fun w w' k hb=>⟨h w w' k.1 hb,g w w' k.2 hb⟩
theorem Stb.bel (W:World):Stb fun w=>Below W.heap.size W w:=fun _ _ h hb=>h.trans (hb.mono h.size)
theorem Stb.bx {g:Nat} {a b:Option Addr} {n c m d:Nat}:Stb fun w=>Bx w g a n c b m d:=fun _ _ h hb=>h.below hb h.lt
theorem Stb.vl {a b:Option Addr} {n m:Nat} {l:List Int} {es:List ByteArray}:Stb fun w=>Vl w a n b m l es:=fun _ _ h hb=>h.below hb
theorem Stb.triv {p:Prop}:Stb fun _=>p:=fun _ _ h _=>h
structure Lv (P:World→Prop) (w:World):Prop where
 out:P w
theorem live {P:World→Prop} {w:World} {f:FuncId} {args:Array Value} {R:Ending→World→Prop} (h:Lv P w) (hc:Calls Tryz.prog f args w fun e w'=>R e w'∧Below w.heap.size w w')
 (hs:Stb P:=by repeat' (first|exact Stb.bel _|exact Stb.bx|exact Stb.vl|refine Stb.and ?_ ?_|exact Stb.triv)):Calls Tryz.prog f args w fun e w'=>R e w'∧Lv P w':=hc.mono fun _ _ k=>⟨k.1,⟨hs _ _ h.out k.2⟩⟩
end Go.Proofs.YtcfbjdplhgdpfaaGreatDoor
namespace Go.Proofs.YtcfbjdplhgdpfaaGreatDoor
set_option linter.unusedVariables false
set_option linter.unusedSimpArgs false
open Go.RowKit
theorem prD_is:∀l:List Int,prD l=pr l
 |[]=>rfl
 |x::r=>by show x*prD r=x*pr r;rw[prD_is r]
def AIs (l:List Int) (es:List ByteArray):Option Ar→Prop
 |some q=>q.1=l∧es=q.2.map S∧MayVl l es∧∀x∈q.2,x.natAbs<lim
 |none=>mayV l es=false
theorem ais_ex (l:List Int) (es:List ByteArray):∃o,AIs l es o:=by
 cases h:mayV l es
 · exact⟨none,h⟩
 · have hm:=mayV_yes.1 h
   obtain⟨xs,h1,h2⟩:=nums_of (es:=es) fun s hs=>by
    obtain⟨j,hj,rfl⟩:=List.getElem_of_mem hs
    have:=hm.all j hj
    rwa [List.getD_eq_getElem?_getD,List.getElem?_eq_getElem hj]at this
   exact⟨some (l,xs),rfl,h1,hm,h2⟩
theorem AIs.may {l:List Int} {es:List ByteArray} {o:Option Ar} (h:AIs l es o):mayV l es=o.isSome:=by
 cases o with
 |none=>exact h
 |some q=>exact mayV_yes.2 h.2.2.1
def TS (o:Option Ar):List Int×List ByteArray:=match o with
 |some q=>(q.1,q.2.map S)
 |none=>([],[])
def AEnd (l:List Int) (es:List ByteArray) (ec:Int) (W:World) (e:Ending) (W':World):Prop:=
 ∃a n c b m d,e=.returned (.tuple #[.agg #[.slice a n c,.slice b m d],.int .i64 ec])∧Vl W' a n b m l es∧Cp n c m d∧Below W.heap.size W W'
theorem valsS_snoc (l:List ByteArray) (s:ByteArray):valsS (l++[s])=valsS l++[.string s]:=by simp[valsS]
theorem own_set {w:World} {B n:Nat} {e:TypeId} {v:Value} {xs:List Value} (h:w.ownsRow B e 1 v n xs) {p:Addr} (hp:p.block<B) (u:Value):(w.setCell p u).ownsRow B e 1 v n xs:=by
 refine⟨h.1,?_⟩
 rcases h.2 with h0|⟨g,cap,cur,e1,e2,hg,h2⟩
 · exact .inl h0
 · exact .inr ⟨g,cap,cur,e1,e2,(Below.heap_setCell _ _ _ g (by omega)).trans hg,h2⟩
end Go.Proofs.YtcfbjdplhgdpfaaGreatDoor
namespace Go.Proofs.YtcfbjdplhgdpfaaGreatDoor
set_option linter.unusedVariables false
set_option linter.unusedSimpArgs false
section
end
section
open Go.RowKit
structure R3 (l:List Int) (k:Nat) (sz:Int):Prop where
 lo:1≤sz
 hi:sz≤4096
 eq:sz=pr (l.take k)
end
end Go.Proofs.YtcfbjdplhgdpfaaGreatDoor
namespace Go.Proofs.YtcfbjdplhgdpfaaGreatDoor
set_option linter.unusedVariables false
set_option linter.unusedSimpArgs false
section
open Go.RowKit
end
section
open Go.RowKit
theorem ofB_in {l t:List Int} {k:Nat} (hk:k<l.length) (h:t.getD k 0<0∨l.getD k 0≤t.getD k 0):ofB l t=false∧ofV l t=0:=by
 have e:ofB l t=false:=by unfold ofB;rw[inL_not hk h];simp
 exact⟨e,by unfold ofV;rw[e];rfl⟩
theorem ofB_bad {l t:List Int} (h:szE l≠0∨l.length≠t.length):ofB l t=false∧ofV l t=0:=by
 have e:ofB l t=false:=by
  unfold ofB
  rcases h with h|h
  · rw[decide_eq_false h];rfl
  · rw[decide_eq_false h];simp
 exact⟨e,by unfold ofV;rw[e];rfl⟩
def OffIs (f:Nat) (a1 a2:Option Addr) (n c m d:Nat) (v:Int) (b:Bool) (W:World):Prop:=
 Calls Tryz.prog f #[.slice a1 n c,.slice a2 m d] W fun x W'=>x=.returned (.tuple #[.int .i64 v,.bool b])∧SDrawn W W'
theorem Offset_is (a1 a2:Option Addr) (n c m d:Nat) (l t:List Int) (W:World) (h1:Sl W a1 n l) (h2:Sl W a2 m t) (hm20:m≤20):OffIs 103 a1 a2 n c m d (ofV l t) (ofB l t) W:=by
 have hmay:=May_is a1 n c l W h1 _ rfl
 obtain⟨v,hv⟩:∃v,v=ofV l t:=⟨_,rfl⟩
 obtain⟨b,hb⟩:∃b,b=ofB l t:=⟨_,rfl⟩
 rw[←hv,←hb]
 have HV:=Lib.hid hv
 have HB:=Lib.hid hb
 have H1:=Lib.hid h1
 have H2:=Lib.hid h2
 clear hv hb h1 h2
 unfold OffIs
 by_cases he:szE l=0
 · rw[he]at hmay
   have HM:=Lib.hid (szE_may.1 he)
   have hn3:n≤3:=by have:=HM.out.len;rw[H1.out.1]at this;exact this
   have K:=Lib.hid hmay
   clear hmay he
   by_cases hnm:m=n
   · subst hnm
     have hlt:l.length=t.length:=by rw[H1.out.1,H2.out.1]
     have HL:=Lib.hid hlt
     clear hlt
     go_enter Tryz.func103,Tryz.ntmps103
     go_wp2_with fail
     refine K.out.mono ?_
     rintro x w1 ⟨rfl,rfl⟩
     go_wp2_with fail
     go_loop [6,21] (fun o i=>∃(k:Nat) (z:Int),i=.int .i64 k∧o=.int .i64 z∧k≤m∧OfInv l t k z) (fun _ i=>m-(intOf i).toNat)
     case atStart=>exact⟨0,0,rfl,rfl,by omega,OfInv.start l t⟩
     case round=>
      obtain⟨k,z,rfl,rfl,hk,hI⟩:=hrel
      have HI:=Lib.hid hI
      clear hI
      by_cases hlt:k<m
      · have e2:(k:Int)<(m:Int):=by omega
        obtain⟨b1,o1,rfl,hc1⟩:=H1.out.2 (by omega)
        obtain⟨b2,o2,rfl,hc2⟩:=H2.out.2 (by omega)
        have hk1:=hc1 k hlt
        have hk2:=hc2 k hlt
        clear hc1 hc2
        obtain⟨x,hx⟩:∃x,x=l.getD k 0:=⟨_,rfl⟩
        obtain⟨y,hy⟩:∃y,y=t.getD k 0:=⟨_,rfl⟩
        rw[←hx]at hk1
        rw[←hy]at hk2
        have HX:=Lib.hid hx
        have HY:=Lib.hid hy
        clear hx hy
        have hkl:k<l.length:=by rw[H1.out.1];exact hlt
        by_cases c1:y<0
        · obtain⟨f1,f2⟩:=ofB_in (t:=t) hkl (.inl (by rw[←HY.out];exact c1))
          obtain rfl:b=false:=HB.out.trans f1
          obtain rfl:v=0:=HV.out.trans f2
          clear f1 f2
          go_wp2_with fail
          go_ret2
          exact⟨rfl,SDrawn.refl _⟩
        by_cases c2:x≤y
        · obtain⟨f1,f2⟩:=ofB_in (t:=t) hkl (.inr (by rw[←HY.out,←HX.out];exact c2))
          obtain rfl:b=false:=HB.out.trans f1
          obtain rfl:v=0:=HV.out.trans f2
          clear f1 f2
          go_wp2_with fail
          go_ret2
          exact⟨rfl,SDrawn.refl _⟩
        · have hst:=HI.out.step HM.out hkl (by rw[←HY.out];omega) (by rw[←HY.out,←HX.out];omega)
          rw[←HX.out,←HY.out]at hst
          have HT:=Lib.hid hst
          clear hst
          go_wp2_with fail
          go_round
          case rel=>exact⟨k+1,_,by go_num,rfl,by omega,HT.out⟩
          case measure=>simp[intOf];omega
      · have e2:¬(k:Int)<(m:Int):=by omega
        obtain rfl:k=m:=by omega
        obtain⟨f1,f2⟩:=(show OfInv l t l.length z by rw[H1.out.1];exact HI.out).ends HM.out HL.out
        obtain rfl:b=true:=HB.out.trans f1
        obtain rfl:v=z:=HV.out.trans f2
        clear f1 f2
        go_wp2_with fail
        go_ret2
        exact⟨rfl,SDrawn.refl _⟩
   · obtain⟨f1,f2⟩:=ofB_bad (l:=l) (t:=t) (.inr (by rw[H1.out.1,H2.out.1];omega))
     obtain rfl:b=false:=HB.out.trans f1
     obtain rfl:v=0:=HV.out.trans f2
     clear f1 f2
     have e2:(m:Int)≠(n:Int):=by omega
     go_enter Tryz.func103,Tryz.ntmps103
     go_wp2_with fail
     refine K.out.mono ?_
     rintro x w1 ⟨rfl,rfl⟩
     go_wp2_with fail
     go_ret2
     exact⟨rfl,SDrawn.refl _⟩
 · obtain⟨f1,f2⟩:=ofB_bad (l:=l) (t:=t) (.inl he)
   obtain rfl:b=false:=HB.out.trans f1
   obtain rfl:v=0:=HV.out.trans f2
   clear f1 f2
   rw[show(szE l==0)=false from beq_eq_false_iff_ne.2 he]at hmay
   have K:=Lib.hid hmay
   clear hmay he
   go_enter Tryz.func103,Tryz.ntmps103
   go_wp2_with fail
   refine K.out.mono ?_
   rintro x w1 ⟨rfl,rfl⟩
   go_wp2_with fail
   go_ret2
   exact⟨rfl,SDrawn.refl _⟩
end
section
open Go.RowKit
end
section
open Go.RowKit
theorem infoInt:(Tryz.prog.info? 3).map (fun i=>(i.zero,i.size,i.bytes))=some (some (.int .i64 0),1,8):=by kernel_rfl
def supd (F:Nat→Int) (i:Nat) (x:Int):Nat→Int:=fun j=>if j=i then x else F j
theorem SRw.frozen {w:World} {g N:Nat} {F:Nat→Int} (h:SRw w g N F) (i:Nat):w.frozen? ⟨g,i,none⟩=false:=World.rowIs.frozen h i
theorem SRw.set {w:World} {g N:Nat} {F:Nat→Int} (h:SRw w g N F) (i:Nat) (v:Int):SRw (w.setCell ⟨g,i,none⟩ (.int .i64 v)) g N (supd F i v):=by
 refine(World.rowIs.set h i _).congr fun j _=> ?_
 unfold supd
 split<;>rfl
theorem SRw.made (w:World) (n:Nat):SRw (w.alloc (.cells (madeCells #[.int .i64 0] n) 3)) w.heap.size n (fun _=>0):=World.rowIs_made w _ n _
def plB (l:List Int) (k:Int):Bool:=decide (szE l=0)&&(decide (0≤k)&&decide (k<pr l))
def plO (l:List Int) (k:Int):List Int:=if plB l k then plL l k else[]
theorem plB_no {l:List Int} {k:Int} (h:szE l≠0∨k<0∨pr l≤k):plB l k=false∧plO l k=[]:=by
 have e:plB l k=false:=by
  unfold plB
  rcases h with h|h|h
  · rw[decide_eq_false h];rfl
  · rw[decide_eq_false (show¬0≤k by omega)];simp
  · rw[decide_eq_false (show¬k<pr l by omega)];simp
 exact⟨e,by unfold plO;rw[e];rfl⟩
theorem plB_yes {l:List Int} {k:Int} (h:szE l=0) (h0:0≤k) (h1:k<pr l):plB l k=true∧plO l k=plL l k:=by
 have e:plB l k=true:=by unfold plB;rw[decide_eq_true h,decide_eq_true h0,decide_eq_true h1];rfl
 exact⟨e,by unfold plO;rw[e];rfl⟩
end
section
open Go.RowKit
end
section
open Go.RowKit
def mtE (l k:List Int):Int:=if(l==k)=true∨k.length=0 then 0 else if l.length=0 then 0 else 4
def mtV (l k:List Int):List Int:=if(l==k)=true∨k.length=0 then l else if l.length=0 then k else[]
end
end Go.Proofs.YtcfbjdplhgdpfaaGreatDoor
namespace Go.Proofs.YtcfbjdplhgdpfaaGreatDoor
set_option linter.unusedVariables false
set_option linter.unusedSimpArgs false
open Go.RowKit
theorem mtE_is (l k:List Int):mtE l k=meE l k:=by
 unfold mtE meE
 by_cases h:l=k
 · subst h;simp
 · have h':(l==k)=false:=beq_eq_false_iff_ne.2 h
   rw[h']
   by_cases h1:k=[]<;>by_cases h2:l=[]<;>simp_all
theorem mtV_is (l k:List Int):mtV l k=meV l k:=by
 unfold mtV meV
 by_cases h:l=k
 · subst h;simp
 · have h':(l==k)=false:=beq_eq_false_iff_ne.2 h
   rw[h']
   by_cases h1:k=[]<;>by_cases h2:l=[]<;>simp_all
theorem ais_none:AIs [] [] none:=by show mayV [] []=false;decide
theorem mayL_S {x:Int} (h:x.natAbs<lim):mayL (S x).data.toList=true:=by
 have hi:Is (S x) (some x):=⟨rfl,h⟩
 exact hi.may
theorem ais_of {l xs:List Int} (h:szE l=0) (hl:(xs.length:Int)=pr l) (hb:∀x∈xs,x.natAbs<lim):AIs l (xs.map S) (some (l,xs)):=by
 refine⟨rfl,rfl,⟨h,by rw[List.length_map];exact hl,fun j hj=> ?_⟩,hb⟩
 rw[List.length_map]at hj
 rw[List.getD_eq_getElem?_getD,List.getElem?_map,List.getElem?_eq_getElem hj]
 exact mayL_S (hb _ (List.getElem_mem hj))
theorem AIs.len {l:List Int} {es:List ByteArray} {q:Ar} (h:AIs l es (some q)):q.1=l∧es.length=q.2.length∧szE l=0∧(q.2.length:Int)=pr l∧∀x∈q.2,x.natAbs<lim:=by
 obtain⟨h1,h2,h3,h4⟩:=h
 have e:es.length=q.2.length:=by rw[h2,List.length_map]
 exact⟨h1,e,h3.e,by rw[←e];exact h3.len,h4⟩
theorem dyA_is {k:Nat} {l m:List Int} {es fs:List ByteArray} {o p:Option Ar} (h1:AIs l es o) (h2:AIs m fs p):AIs (TS (dyA k o p).1).1 (TS (dyA k o p).1).2 (dyA k o p).1:=by
 rcases dyA_end k o p with⟨_,h⟩|⟨h,_⟩
 · by_cases hk:k<11
   · cases o with
     |none=>cases h
     |some a=>
     cases p with
     |none=>cases h
     |some b=>
     obtain⟨a1,xs⟩:=a
     obtain⟨b1,ys⟩:=b
     obtain⟨g1,_,g3,g4,g5⟩:=h1.len
     obtain⟨f1,_,f3,f4,f5⟩:=h2.len
     simp only at g1 g4 g5 f1 f4 f5
     subst g1 f1
     by_cases hm:meE a1 b1=0
     · rw[dyA_two hk hm]at h ⊢
       generalize hs:spL k _=r at h ⊢
       obtain⟨u,e⟩:=r
       cases u with
       |none=>cases h
       |some zs=>
        have hz:szE (meV a1 b1)=0:=by
         unfold meV
         split
         · exact g3
         · split
           · exact f3
           · exact(by decide:szE []=0)
        refine ais_of hz ?_ (spL_bd hs (prs_bd g5 f5))
        rw[spL_len hs,prs_length,prD_is,Int.toNat_of_nonneg (may_pr hz).1]
        rfl
     · rw[dyA_shape hk hm]at h;cases h
   · rw[dyA_none hk]at h;cases h
 · rw[h];exact ais_none
theorem mnZ_bd {k:Nat} (hk:k<3) {x:Int} (h:x.natAbs<lim):(mnZ k x).natAbs<lim:=mnI_bd (k:=k) h _ (by rw[mnI_ok hk])
theorem mnA_is {k:Nat} {l:List Int} {es:List ByteArray} {o:Option Ar} (h:AIs l es o):AIs (TS (mnA k o).1).1 (TS (mnA k o).1).2 (mnA k o).1:=by
 cases o with
 |none=>exact ais_none
 |some a=>
  obtain⟨a1,xs⟩:=a
  obtain⟨g1,_,g3,g4,g5⟩:=h.len
  simp only at g1 g4 g5
  subst g1
  by_cases hk:k<3
  · have e:mnA k (some (a1,xs))=(some (a1,xs.map (mnZ k)),0):=by simp only[mnA];rw[if_neg (by omega)]
    rw[e]
    refine ais_of g3 (by rw[List.length_map];exact g4) fun z hz=> ?_
    obtain⟨x,hx,rfl⟩:=List.mem_map.1 hz
    exact mnZ_bd hk (g5 x hx)
  · have e:mnA k (some (a1,xs))=(none,1):=by simp only[mnA];rw[if_pos hk]
    rw[e];exact ais_none
end Go.Proofs.YtcfbjdplhgdpfaaGreatDoor

import Derived.Test.YtcfbjdplhgdpfaaGreatDoorTap
set_option maxHeartbeats 800000
set_option maxRecDepth 10000
namespace Go.Proofs.YtcfbjdplhgdpfaaGreatDoor
set_option linter.unusedVariables false
set_option linter.unusedSimpArgs false
abbrev xG2:=@Array.toList_append
abbrev xF2:=@Go.grownCap_le_maxLen
abbrev xE2:=@Go.grownCap_ge
abbrev zV1:=@List.map_nil
abbrev xL:=@List.append_nil
section
open Go.RowKit
theorem zJf {a b:Option Addr} {n c m d:Nat} {l:List Int} {es:List ByteArray} (W:World) (h:Vl W a n b m l es) (hz:∀j,j<m→(es.getD j ByteArray.empty).size≤maxLen):
 Calls Tryz.prog 8 #[.agg #[.slice a n c,.slice b m d]] W (yX4 (yR4 l es) W):=by
 have r1:=h.mm;have hl:=h.s.1;have HT:=zC h.t;have hno:∀j,j<m→j<301→120<(es.getD j ByteArray.empty).size→yR4 l es=false:=fun j hj h3 h4=>yS4 (by rw[h.t.1];exact hj) h3 h4;have hyes:(∀j,j<m→j<301→(es.getD j ByteArray.empty).size≤120)→yR4 l es=(decide (m≤300)&&decide (n≤20)):=fun hh=>by rw[yT4 (by rw[h.t.1];exact hh),h.t.1,hl]
 have HN:=zC hno;have HY:=zC hyes;have HZ:=zC hz;clear h hno hyes hl hz;have hb0:Below W.heap.size W (W.alloc (.cells #[.slice a n c,.slice b m d] 25)):=(zI _ _).alloc (zR _) _;generalize yR4 l es=v at HN HY ⊢;go_in;go_wp2_with fail;go_loop [3] (fun i=>∃k:Nat,i=.int .i64 k∧k≤m∧k≤301∧Hid (∀j,j<k→(es.getD j ByteArray.empty).size≤120)) (fun i=>m-(intOf i).toNat)
 case atStart=>exact⟨0,rfl,by omega,by omega,zC fun j hj=>by omega⟩
 case round=>
  obtain⟨k,rfl,hk,hk3,HI⟩:=hrel;by_cases hlt:k<m
  · by_cases h3:k<301
    · have e2:(k:Int)<(m:Int):=by omega
      have e3:(k:Int)<301:=by omega
      obtain⟨bb,off,rfl,hc⟩:=HT.out.2 yEn;have hck:=(hb0.cell (p:=⟨bb,off+k,none⟩) (yU W _ (hc k hlt))).trans (hc k hlt);clear hc;obtain⟨s,hse⟩:∃s,s=es.getD k ByteArray.empty:=⟨_,rfl⟩
      have hsz:s.size≤9223372036854775807:=by have:=HZ.out k hlt;rw[←hse]at this;unfold maxLen at this;omega
      rw[←hse]at hck;by_cases hs:120<s.size
      · obtain rfl:v=false:=HN.out k hlt h3 (by rw[←hse];exact hs)
        clear hse;have e4:(120:Int)<(s.size:Int):=by omega
        go_wp2_with fail;go_ret;exact⟨rfl,hb0⟩
      · have HE:=zC hse
        clear hse;have e4:¬(120:Int)<(s.size:Int):=by omega
        have HS:Hid (s.size≤120):=zC yEn;go_wp2_with fail;go_round
        case rel=>
         refine⟨k+1,by go_num,by omega,by omega,zC fun j hj=> ?_⟩;rcases zM1 j k with h2|h2
         · exact HI.out j h2
         · rw[show j=k by omega,←HE.out];exact HS.out
        case measure=>simp[intOf];omega
    · obtain rfl:k=301:=by omega
      obtain rfl:v=false:=(HY.out fun j _ h4=>HI.out j h4).trans (by rw[yG0 yEn];rfl);have e2:(301:Int)<(m:Int):=by omega
      have e5:¬(m:Int)≤300:=by omega
      go_wp2_with fail;go_ret;exact⟨rfl,hb0⟩
  · have e2:¬(k:Int)<(m:Int):=by omega
    have hv:=HY.out fun j hj _=>HI.out j yEn;by_cases c1:m≤300
    · by_cases c2:n≤20
      · obtain rfl:v=true:=hv.trans (by rw[yI0 c1,yI0 c2];rfl)
        have e5:(m:Int)≤300:=by omega
        have e6:(n:Int)≤20:=by omega
        clear hv;go_wp2_with fail;go_ret;exact⟨rfl,hb0⟩
      · obtain rfl:v=false:=hv.trans (by rw[yG0 c2];simp)
        have e5:(m:Int)≤300:=by omega
        have e6:¬(n:Int)≤20:=by omega
        clear hv;go_wp2_with fail;go_ret;exact⟨rfl,hb0⟩
    · obtain rfl:v=false:=hv.trans (by rw[yG0 c1];rfl)
      have e5:¬(m:Int)≤300:=by omega
      clear hv;go_wp2_with fail;go_ret;exact⟨rfl,hb0⟩
def zKf (x:Int):Bool:=decide (-1099511627776≤x)&&decide (x≤1099511627776)
def zLf (x e:Int) (W:World) (x':Ending) (W':World):Prop:=x'=.returned (.tuple #[.int .i64 x,.int .i64 e])∧Below W.heap.size W W'
theorem zMf {x:Int}:zKf x=true↔ -1099511627776≤x∧x≤1099511627776:=by simp[zKf]
theorem zNf {x:Int}:zKf x=false↔x< -1099511627776∨1099511627776<x:=by
 rw[←xP0,zMf];omega
theorem zOf (s:ByteArray) (x:Int) (W:World) (hi:xQ4 s x true W) (hf:zKf x=true):Calls Tryz.prog 136 #[.string s] W (zLf x 0 W):=by
 obtain⟨h0,h1⟩:=zMf.1 hf;unfold xQ4 at hi;have K:=zC hi;clear hi hf;go_in;go_wp2_with fail;refine K.out.mono ?_;rintro x w1 ⟨rfl,hb⟩;go_wp2_with fail;go_ret2;exact⟨rfl,hb⟩
theorem zPf (s:ByteArray) (x:Int) (v:Bool) (W:World) (hi:xQ4 s x v W) (hf:v=false∨zKf x=false):Calls Tryz.prog 136 #[.string s] W (zLf 0 5 W):=by
 unfold xQ4 at hi;have K:=zC hi;clear hi;rcases xN0 v with rfl|rfl
 · have hf:zKf x=false:=by rcases hf with h|h;cases h;exact h
   have hc:=zNf.1 hf;clear hf;by_cases c1:x< -1099511627776
   · clear hc
     go_in;go_wp2_with fail;refine K.out.mono ?_;rintro x w1 ⟨rfl,hb⟩;go_wp2_with fail;go_ret2;exact⟨rfl,hb⟩
   · have c2:1099511627776<x:=by omega
     clear hc;go_in;go_wp2_with fail;refine K.out.mono ?_;rintro x w1 ⟨rfl,hb⟩;go_wp2_with fail;go_ret2;exact⟨rfl,hb⟩
 · clear hf
   go_in;go_wp2_with fail;refine K.out.mono ?_;rintro x w1 ⟨rfl,hb⟩;go_wp2_with fail;go_ret2;exact⟨rfl,hb⟩
def zQf (s:ByteArray) (W:World) (e:Ending) (W':World):Prop:=
 ∃g,e=.returned (.agg #[.slice none 0 0,.slice (some ⟨g,0,none⟩) 1 1])∧W'.cell? ⟨g,0,none⟩=some (.string s)∧Below W.heap.size W W'
theorem St.one {W:World} {g:Nat} {s:ByteArray} (h:W.cell? ⟨g,0,none⟩=some (.string s)):St W (some ⟨g,0,none⟩) 1 [s]:=by
 refine⟨rfl,fun _=>⟨g,0,rfl,fun j hj=> ?_⟩⟩;obtain rfl:j=0:=by omega
 exact h
theorem Vl.one {W:World} {g:Nat} {s:ByteArray} (h:W.cell? ⟨g,0,none⟩=some (.string s)):Vl W none 0 (some ⟨g,0,none⟩) 1 [] [s]:=⟨Sl.nil _ _,St.one h,by omega⟩
theorem zRf (s:ByteArray) (W:World):Calls Tryz.prog 18 #[.string s] W (zQf s W):=by
 go_in;go_wp2_with fail;have hc:=yB0 _ _ 0 _ _ _ (yE (W.alloc (.cells #[.slice none 0 0,.slice (some ⟨W.heap.size+1,0,none⟩) 1 1] 25)) (.cells #[.string s] 9));rw[show(W.alloc (.cells #[.slice none 0 0,.slice (some ⟨W.heap.size+1,0,none⟩) 1 1] 25)).heap.size=W.heap.size+1 by simp]at hc;exact zE (v:=.agg #[.slice none 0 0,.slice (some ⟨W.heap.size+1,0,none⟩) 1 1]) (by simp[results,Tryz.results18,go_sem]) rfl ⟨_,rfl,hc,((zI _ _).alloc (zR _) _).alloc yHn _⟩
end
section
open Go.RowKit
theorem Sl.row {w:World} {g:Nat} {l:List Int} {t:TypeId} {fr:Nat×Nat} (h:w.heap[g]?=some (.cells (l.map (Value.int .i64)).toArray t fr)):Sl w (some ⟨g,0,none⟩) l.length l:=by
 refine⟨rfl,fun _=>⟨g,0,rfl,fun j hj=> ?_⟩⟩;rw[zP0,yB0 w g j _ _ _ h];simp[yJ,yM hj]
theorem Bx.drewN {W:World} {a b:Option Addr} {g n c m d:Nat} (h:Bx W g a n c b m d) (q:Nat):Bx (W.drewN q) g a n c b m d:=h
theorem zSf {B:Nat} {a w:World} (h:Below B a w) (n:Nat):Below B a (w.drewN n):=⟨h.os,h.tape,h.output,h.size,h.block⟩
end
section
open Go.RowKit
set_option maxRecDepth 10000
def Rd (w:World) (A:Option Addr) (m:Nat) (news:List Value):Prop:=
 news.length=m∧(0<m→∃b off,A=some ⟨b,off,none⟩∧∀j u,news[j]?=some u→w.cell? ⟨b,off+j,none⟩=some u)
def zTf (es:List ByteArray):List Value:=es.map Value.string
theorem Sl.rd {w:World} {A:Option Addr} {m:Nat} {l:List Int} (h:Sl w A m l):Rd w A m (yS9 l):=by
 refine⟨by unfold yS9;rw[zD0,h.1],fun hm=> ?_⟩;obtain⟨b,off,e,hc⟩:=h.2 hm;refine⟨b,off,e,fun j u hu=> ?_⟩;unfold yS9 at hu;rw[xS0,xC2]at hu;obtain⟨x,hx,rfl⟩:=hu;obtain⟨hlt,rfl⟩:=xD2.1 hx;rw[hc j (by rw[←h.1];exact hlt)];simp[yJ,yM hlt]
theorem St.rd {w:World} {A:Option Addr} {m:Nat} {l:List ByteArray} (h:St w A m l):Rd w A m (zTf l):=by
 refine⟨by unfold zTf;rw[zD0,h.1],fun hm=> ?_⟩;obtain⟨b,off,e,hc⟩:=h.2 hm;refine⟨b,off,e,fun j u hu=> ?_⟩;unfold zTf at hu;rw[xS0,xC2]at hu;obtain⟨x,hx,rfl⟩:=hu;obtain⟨hlt,rfl⟩:=xD2.1 hx;rw[hc j (by rw[←h.1];exact hlt)];simp[yJ,yM hlt]
theorem Rd.st {w:World} {A:Option Addr} {m:Nat} {l:List ByteArray} (h:Rd w A m (zTf l)):St w A m l:=by
 have hl:l.length=m:=by have:=h.1;unfold zTf at this;rwa [zD0]at this
 refine⟨hl,fun hm=> ?_⟩;obtain⟨b,off,e,hc⟩:=h.2 hm;refine⟨b,off,e,fun j hj=>hc j _ ?_⟩;unfold zTf;simp[yJ,yM (show j<l.length by omega)]
theorem zUf (l:List Int):∀u∈yS9 l,u.oneCell'=true:=by
 intro u hu;obtain⟨x,_,rfl⟩:=xY0.1 hu;rfl
theorem zVf (l:List ByteArray):∀u∈zTf l,u.oneCell'=true:=by
 intro u hu;obtain⟨x,_,rfl⟩:=xY0.1 hu;rfl
theorem zWf {w:World} {base n:Nat} {e:TypeId} {v:Value} {xs:List Value} (h:w.ownsRow base e 1 v n xs):∃a c,v=.slice a n c:=by
 rcases h.2 with⟨rfl,rfl⟩|⟨g,cap,_,rfl,_⟩
 · exact⟨_,_,rfl⟩
 · exact⟨_,_,rfl⟩
theorem zXf {w:World} {base n:Nat} {e:TypeId} {a:Option Addr} {c:Nat} {xs:List Value} (h:w.ownsRow base e 1 (.slice a n c) n xs) (hn:0<n):∃g,a=some ⟨g,0,none⟩∧base≤g∧(∀j,j<n→w.cell? ⟨g,j,none⟩=xs[j]?)∧∀j,w.frozen? ⟨g,j,none⟩=false:=by
 obtain⟨hl,h⟩:=h;rw[yS0]at hl;rcases h with⟨_,h0⟩|⟨g,cap,cur,hv,hb,hg,_,_,_,ht⟩
 · omega
 · injection hv with hv _ _
   refine⟨g,hv,hb,fun j hj=> ?_,fun j=>zA1 _ _ j _ _ hg⟩;rw[yS0]at ht;rw[yB0 w g j cur _ _ hg,←yV0];have e:cur.toList[j]?=(cur.toList.take n)[j]?:=by rw[yU0 hj]
   rw[e,ht]
theorem zYf {w:World} {base n:Nat} {e:TypeId} {a:Option Addr} {c:Nat} {l:List Int} (h:w.ownsRow base e 1 (.slice a n c) n (yS9 l)):Sl w a n l:=by
 have hl:l.length=n:=by have:=h.1;unfold yS9 at this;rwa [zD0,yS0]at this
 refine⟨hl,fun hn=> ?_⟩;obtain⟨g,rfl,_,hc,_⟩:=zXf h hn;refine⟨g,0,rfl,fun j hj=> ?_⟩;rw[zP0,hc j hj];unfold yS9;simp[yJ,yM (show j<l.length by omega)]
theorem zZf {w:World} {base n:Nat} {e:TypeId} {a:Option Addr} {c:Nat} {l:List ByteArray} (h:w.ownsRow base e 1 (.slice a n c) n (zTf l)):St w a n l:=by
 have hl:l.length=n:=by have:=h.1;unfold zTf at this;rwa [zD0,yS0]at this
 refine⟨hl,fun hn=> ?_⟩;obtain⟨g,rfl,_,hc,_⟩:=zXf h hn;refine⟨g,0,rfl,fun j hj=> ?_⟩;rw[zP0,hc j hj];unfold zTf;simp[yJ,yM (show j<l.length by omega)]
section
variable {w:World}
theorem yAf (base:Nat) (t ty e:TypeId) (i:TypeInfo) (ht:Tryz.prog.underlying t=some (.slice e)) (hi:Tryz.prog.info? e=some i)
 (v:Value) (n:Nat) (xs:List Value) (hown:w.ownsRow base e 1 v n xs) (c:Nat):(Builtin.append_ #[t,t] ty #[v,.slice none 0 c]).run Tryz.prog w=.ok v w:=by
 rcases hown.2 with⟨rfl,rfl⟩|⟨g,cap,cur,rfl,_,_,hnc,_⟩
 · simp[Builtin.append_,yZ0 ht,sizeOf,typeInfo,hi,Builtin.lenOf,Builtin.firstCells]
 · simp[Builtin.append_,yZ0 ht,sizeOf,typeInfo,hi,Builtin.lenOf,Builtin.firstCells,hnc,storeCells]
theorem yBf (base:Nat) (t ty e:TypeId) (i:TypeInfo) (z:Value) (bytes:Nat) (ht:Tryz.prog.underlying t=some (.slice e)) (hi:Tryz.prog.info? e=some i) (hz:i.zero=some z)
 (hsize:i.size=1) (hby:i.bytes=bytes) (hzs:z.cells.size=1) (hbb:bytes≤100)
 (v:Value) (n:Nat) (xs:List Value) (hown:w.ownsRow base e 1 v n xs) (A:Option Addr) (m c:Nat) (news:List Value) (hr:Rd w A m news) (h1:∀u∈news,u.oneCell'=true)
 (hnm:n+m≤1000000) (hbase:base≤w.heap.size):
 ∃av cv w',(Builtin.append_ #[t,t] ty #[v,.slice A m c]).run Tryz.prog w=.ok (.slice av (n+m) cv) w'∧w'.ownsRow base e 1 (.slice av (n+m) cv) (n+m) (xs++news)∧w.grownBy w' v.ownBlock:=by
 rcases A with _|ad
 · have hm:m=0:=by
    rcases yL0 m with h0|h0
    · exact h0
    · obtain⟨b,off,e,_⟩:=hr.2 h0;cases e
   subst hm;have hn:news=[]:=yR1 hr.1;subst hn;obtain⟨av,cv,rfl⟩:=zWf hown;refine⟨av,cv,w,yAf base t ty e i ht hi _ n xs hown c,?_,World.grownBy.refl w _⟩;rw[xL];exact hown
 · have hcells:∀j u,news[j]?=some u→w.cell? (ad.add j)=some u:=by
    intro j u hu;rcases yL0 m with h0|h0
    · have hn:news=[]:=yR1 (by rw[hr.1];exact h0)
      subst hn;cases hu
    · obtain⟨b,off,e,hc⟩:=hr.2 h0
      injection e with e
      subst e;rw[zM0];exact hc j u hu
   have hbn:(n+m)*bytes≤140737488355328:=by
    have:(n+m)*bytes≤1000000*100:=yP2 hnm hbb;omega
   obtain⟨v',w',hrun,h2,h3,_,_⟩:=run_append_own_at (P:=Tryz.prog) w base t ty e i z 1 bytes ht hi hz hsize hby hzs yEn v n xs hown ad m c news (by rw[yS0];exact hr.1) hcells h1 xXm hbn hbase;obtain⟨av,cv,rfl⟩:=zWf h2;exact⟨av,cv,w',hrun,h2,h3⟩
theorem yCf {o:Oper} {a:Act} {K:Act→World→Prop} {Q:Exit→Act→World→Prop} (s x:Operand) (t:TypeId)
 (ho:o.op=.call {callee:=.builtin .append,args:=#[s,x],argTypes:=#[t,t]})
 (base:Nat) (e:TypeId) (z:Value) (bytes:Nat) (ht:Tryz.prog.underlying t=some (.slice e)) (hinfo:(Tryz.prog.info? e).map (fun i=>(i.zero,i.size,i.bytes))=some (some z,1,bytes)) (hzs:z.cells.size=1) (hbb:bytes≤100)
 (v:Value) (n:Nat) (xs:List Value) (hs:a.eval s=v) (hown:w.ownsRow base e 1 v n xs)
 (A:Option Addr) (m c:Nat) (news:List Value) (hx:a.eval x=.slice A m c) (hr:Rd w A m news) (h1:∀u∈news,u.oneCell'=true)
 (hnm:n+m≤1000000) (hbase:base≤w.heap.size)
 (h:∀av cv w',w'.ownsRow base e 1 (.slice av (n+m) cv) (n+m) (xs++news)→w.grownBy w' v.ownBlock→K (a.put o.dst (.slice av (n+m) cv)) w'):o.wp Tryz.prog a w K Q:=by
 obtain⟨i,hi,hzz⟩:=xC2.1 hinfo;simp only[xK1]at hzz;obtain⟨hz0,hz1,hz2⟩:=hzz;obtain⟨av,cv,w',hrun,h2,h3⟩:=yBf (w:=w) base t o.type e i z bytes ht hi hz0 hz1 hz2 hzs hbb v n xs hown A m c news hr h1 hnm hbase;unfold Oper.wp execOp;simp only[ho,resolve,invoke,builtin,Sem.run_bind,Sem.run_pure,Result.andThen_ok,List.map_toArray,zU1,zV1,hs,hx,hrun];exact h av cv w' h2 h3
theorem yDf {ops:Array Oper} {rest:List Oper} {o:Oper} {a:Act} {Q:Exit→Act→World→Prop} (hgd:o.guard=none) (s x:Operand) (t:TypeId)
 (ho:o.op=.call {callee:=.builtin .append,args:=#[s,x],argTypes:=#[t,t]})
 (base:Nat) (e:TypeId) (z:Value) (bytes:Nat) (ht:Tryz.prog.underlying t=some (.slice e)) (hinfo:(Tryz.prog.info? e).map (fun i=>(i.zero,i.size,i.bytes))=some (some z,1,bytes)) (hzs:z.cells.size=1) (hbb:bytes≤100)
 (v:Value) (n:Nat) (xs:List Value) (hs:a.eval s=v) (hown:w.ownsRow base e 1 v n xs)
 (A:Option Addr) (m c:Nat) (news:List Value) (hx:a.eval x=.slice A m c) (hr:Rd w A m news) (h1:∀u∈news,u.oneCell'=true)
 (hnm:n+m≤1000000) (hbase:base≤w.heap.size)
 (h:∀av cv w',w'.ownsRow base e 1 (.slice av (n+m) cv) (n+m) (xs++news)→w.grownBy w' v.ownBlock→wpList Tryz.prog ops Q rest (a.put o.dst (.slice av (n+m) cv)) w'):wpList Tryz.prog ops Q (o::rest) a w:=
 wpList_plain hgd fun _ hK=>yCf s x t ho base e z bytes ht hinfo hzs hbb v n xs hs hown A m c news hx hr h1 hnm hbase fun av cv w' h2 h3=>hK _ _ (h av cv w' h2 h3)
theorem yEf {ops:Array Oper} {o:Oper} {a:Act} {K:Act→World→Prop} {Q:Exit→Act→World→Prop} {E:Prop} (hgd:o.guard=none) (s x:Operand) (t:TypeId)
 (ho:o.op=.call {callee:=.builtin .append,args:=#[s,x],argTypes:=#[t,t]})
 (base:Nat) (e:TypeId) (z:Value) (bytes:Nat) (ht:Tryz.prog.underlying t=some (.slice e)) (hinfo:(Tryz.prog.info? e).map (fun i=>(i.zero,i.size,i.bytes))=some (some z,1,bytes)) (hzs:z.cells.size=1) (hbb:bytes≤100)
 (v:Value) (n:Nat) (xs:List Value) (hs:a.eval s=v) (hown:w.ownsRow base e 1 v n xs)
 (A:Option Addr) (m c:Nat) (news:List Value) (hx:a.eval x=.slice A m c) (hr:Rd w A m news) (h1:∀u∈news,u.oneCell'=true)
 (hnm:n+m≤1000000) (hbase:base≤w.heap.size)
 (h:∀av cv w',w'.ownsRow base e 1 (.slice av (n+m) cv) (n+m) (xs++news)→w.grownBy w' v.ownBlock→K (a.put o.dst (.slice av (n+m) cv)) w'):
 if Region.wanted o (yielded ops a.tmps)=true then Oper.wp Tryz.prog o a w K Q else E:=by
 have hw:Region.wanted o (yielded ops a.tmps)=true:=by simp[Region.wanted,hgd]
 rw[yA hw];exact yCf s x t ho base e z bytes ht hinfo hzs hbb v n xs hs hown A m c news hx hr h1 hnm hbase h
end
def Fr (w:World) (B:Nat) (e:TypeId) (av:Option Addr) (n cv:Nat) (xs:List Value):Prop:=Rd w av n xs∧(0<n→w.ownsRow B e 1 (.slice av n cv) n xs)∧(n=0→cv=0)
theorem Rd.below {w w':World} {A:Option Addr} {m:Nat} {news:List Value} (h:Rd w A m news) (hb:Below w.heap.size w w'):Rd w' A m news:=by
 refine⟨h.1,fun hm=> ?_⟩;obtain⟨b,off,e,hc⟩:=h.2 hm;exact⟨b,off,e,fun j u hu=>(hb.cell (p:=⟨b,off+j,none⟩) (yU w _ (hc j u hu))).trans (hc j u hu)⟩
theorem yFf {w:World} {B B' n:Nat} {e:TypeId} {v:Value} {xs:List Value} (h:w.ownsRow B e 1 v n xs) (hB:B'≤B):w.ownsRow B' e 1 v n xs:=by
 refine⟨h.1,?_⟩;rcases h.2 with h|⟨g,cap,cur,hv,h1,h2⟩
 · exact .inl h
 · exact .inr ⟨g,cap,cur,hv,xN hB h1,h2⟩
theorem Fr.below {w w':World} {B:Nat} {e:TypeId} {av:Option Addr} {n cv:Nat} {xs:List Value} (h:Fr w B e av n cv xs) (hb:Below w.heap.size w w'):Fr w' B e av n cv xs:=⟨h.1.below hb,fun hn=>zLe (h.2.1 hn) hb,h.2.2⟩
theorem Fr.base {w:World} {B B':Nat} {e:TypeId} {av:Option Addr} {n cv:Nat} {xs:List Value} (h:Fr w B e av n cv xs) (hB:B'≤B):Fr w B' e av n cv xs:=⟨h.1,fun hn=>yFf (h.2.1 hn) hB,h.2.2⟩
theorem yGf {w:World} {B n:Nat} {e:TypeId} {av:Option Addr} {cv:Nat} {xs:List Value} (h:w.ownsRow B e 1 (.slice av n cv) n xs):Rd w av n xs:=by
 have hl:=h.1;rw[yS0]at hl;refine⟨hl,fun hn=> ?_⟩;obtain⟨g,rfl,_,hc,_⟩:=zXf h hn;refine⟨g,0,rfl,fun j u hu=> ?_⟩;obtain⟨hlt,_⟩:=xD2.1 hu;rw[zP0,hc j yEn,hu]
theorem Rd.void (w:World) (A:Option Addr):Rd w A 0 []:=⟨rfl,fun h=>by omega⟩
theorem yHf {B:Nat} {w w':World} {row:Option Nat} (h:w.grownBy w' row) (hg:∀g,row=some g→B≤g) (hB:B≤w.heap.size):Below B w w':=
 ⟨h.os,h.tape,h.output,h.size,fun k hk=>h.block k yEn (by intro e;have:=hg k e.symm;omega)⟩
section
variable {w:World}
theorem yIf (t ty e:TypeId) (z:Value) (bytes:Nat) (ht:Tryz.prog.underlying t=some (.slice e)) (hinfo:(Tryz.prog.info? e).map (fun i=>(i.zero,i.size,i.bytes))=some (some z,1,bytes)) (hzs:z.cells.size=1) (hbb:bytes≤100)
 (A0:Option Addr) (n0:Nat) (xs:List Value) (hr0:Rd w A0 n0 xs) (hx1:∀u∈xs,u.oneCell'=true) (A:Option Addr) (m c:Nat) (news:List Value) (hr:Rd w A m news) (h1:∀u∈news,u.oneCell'=true) (hnm:n0+m≤1000000):
 ∃av cv w',(Builtin.append_ #[t,t] ty #[.slice A0 n0 n0,.slice A m c]).run Tryz.prog w=.ok (.slice av (n0+m) cv) w'∧Below w.heap.size w w'∧Rd w' av (n0+m) (xs++news)∧
  (0<m→w'.ownsRow w.heap.size e 1 (.slice av (n0+m) cv) (n0+m) (xs++news))∧(m=0→av=A0∧cv=n0∧w'=w):=by
 obtain⟨i,hi,hzz⟩:=xC2.1 hinfo;simp only[xK1]at hzz;obtain⟨hz0,hz1,hz2⟩:=hzz;rcases yL0 m with hm|hm
 · subst hm
   have hn:news=[]:=yR1 hr.1;subst hn;refine⟨A0,n0,w,?_,zI _ _,by rw[xL];exact hr0,fun h=>by omega,fun _=>⟨rfl,rfl,rfl⟩⟩;cases A<;>cases A0<;>simp[Builtin.append_,yZ0 ht,sizeOf,typeInfo,hi,Builtin.lenOf,Builtin.firstCells,storeCells,loadCells,loadCellsFrom]
 · obtain⟨b,off,rfl,hc⟩:=hr.2 hm
   have hcells:∀j u,news[j]?=some u→w.cell? ((⟨b,off,none⟩:Addr).add j)=some u:=by
    intro j u hu;rw[zM0];exact hc j u hu
   have hb1:(n0+m)*bytes≤1000000*100:=yP2 hnm hbb;have key:∀(old:Nat),old<n0+m→(w.drew.alloc (.cells (xs.toArray++news.toArray++Builtin.zeroCells z.cells (grownCap w (n0+m) old e-(n0+m))) e)).ownsRow w.heap.size e 1
    (.slice (some ⟨w.heap.size,0,none⟩) (n0+m) (grownCap w (n0+m) old e)) (n0+m) (xs++news):=by
    intro old ho;have hge:=xE2 w (n0+m) old e;have hcm:=xF2 w (n0+m) old e xXm;refine⟨by rw[zC0,hr0.1,hr.1,yS0],.inr ⟨w.heap.size,_,_,rfl,zR _,yE w.drew _,hge,hcm,?_,?_⟩⟩
    · simp only[Array.size_append,yB1,size_zeroCells,hzs,hr0.1,hr.1,yS0]
      omega
    · simp only[xG2,xA]
      rw[←xA,yS0,←show(xs++news).length=n0+m by rw[zC0,hr0.1,hr.1]];exact List.take_left
   have hbel:∀o,Below w.heap.size w (w.drew.alloc o):=fun o=>(zI _ _).drew.alloc (zR _) _;rcases A0 with _|ad
   · have h0:n0=0:=by
      rcases yL0 n0 with h|h
      · exact h
      · obtain⟨_,_,e,_⟩:=hr0.2 h;cases e
     subst h0;have hx:xs=[]:=yR1 hr0.1;subst hx;have hrun:=run_append_nil (P:=Tryz.prog) w t ty e i z ht hi hz0 ⟨b,off,none⟩ m c news (by rw[hz1,yS0];exact hr.1) hcells hm yEn (by rw[hz2];have:=yP2 (show m≤1000000 by omega) hbb;omega);have k:=key 0 yEn;simp only[zP0,zS0,Array.empty_append]at k ⊢;exact⟨_,_,_,hrun,hbel _,yGf k,fun _=>k,fun h=>by omega⟩
   · have holds:∀j v,xs[j]?=some v→w.cell? (ad.add j)=some v:=by
      intro j u hu;obtain⟨hlt,_⟩:=xD2.1 hu;obtain⟨b',off',e,hc'⟩:=hr0.2 (by rw[←hr0.1];omega);injection e with e
      subst e;rw[zM0];exact hc' j u hu
     have hrun:=run_append_grow (P:=Tryz.prog) w t ty e i z ht hi hz0 ad n0 n0 xs (by rw[hz1,yS0];exact hr0.1) holds ⟨b,off,none⟩ m c news (by rw[hz1,yS0];exact hr.1) hcells yEn yEn (by rw[hz2];exact growslice_fits yEn yEn);have k:=key n0 yEn;exact⟨_,_,_,hrun,hbel _,yGf k,fun _=>k,fun h=>by omega⟩
theorem yJf {o:Oper} {a:Act} {K:Act→World→Prop} {Q:Exit→Act→World→Prop} (s x:Operand) (t:TypeId)
 (ho:o.op=.call {callee:=.builtin .append,args:=#[s,x],argTypes:=#[t,t]})
 (e:TypeId) (z:Value) (bytes:Nat) (ht:Tryz.prog.underlying t=some (.slice e)) (hinfo:(Tryz.prog.info? e).map (fun i=>(i.zero,i.size,i.bytes))=some (some z,1,bytes)) (hzs:z.cells.size=1) (hbb:bytes≤100)
 (A0:Option Addr) (n0:Nat) (xs:List Value) (hs:a.eval s=.slice A0 n0 n0) (hr0:Rd w A0 n0 xs) (hx1:∀u∈xs,u.oneCell'=true) (A:Option Addr) (m c:Nat) (news:List Value) (hx:a.eval x=.slice A m c) (hr:Rd w A m news) (h1:∀u∈news,u.oneCell'=true) (hnm:n0+m≤1000000)
 (h:∀av cv w',Below w.heap.size w w'→Rd w' av (n0+m) (xs++news)→(0<m→w'.ownsRow w.heap.size e 1 (.slice av (n0+m) cv) (n0+m) (xs++news))→(m=0→av=A0∧cv=n0∧w'=w)→K (a.put o.dst (.slice av (n0+m) cv)) w'):o.wp Tryz.prog a w K Q:=by
 obtain⟨av,cv,w',hrun,h2,h3,h4,h5⟩:=yIf (w:=w) t o.type e z bytes ht hinfo hzs hbb A0 n0 xs hr0 hx1 A m c news hr h1 hnm;unfold Oper.wp execOp;simp only[ho,resolve,invoke,builtin,Sem.run_bind,Sem.run_pure,Result.andThen_ok,List.map_toArray,zU1,zV1,hs,hx,hrun];exact h av cv w' h2 h3 h4 h5
theorem yKf {ops:Array Oper} {o:Oper} {a:Act} {K:Act→World→Prop} {Q:Exit→Act→World→Prop} {E:Prop} (hgd:o.guard=none) (s x:Operand) (t:TypeId)
 (ho:o.op=.call {callee:=.builtin .append,args:=#[s,x],argTypes:=#[t,t]})
 (e:TypeId) (z:Value) (bytes:Nat) (ht:Tryz.prog.underlying t=some (.slice e)) (hinfo:(Tryz.prog.info? e).map (fun i=>(i.zero,i.size,i.bytes))=some (some z,1,bytes)) (hzs:z.cells.size=1) (hbb:bytes≤100)
 (A0:Option Addr) (hs:a.eval s=.slice A0 0 0) (A:Option Addr) (m c:Nat) (news:List Value) (hx:a.eval x=.slice A m c) (hr:Rd w A m news) (h1:∀u∈news,u.oneCell'=true) (hnm:m≤1000000)
 (h:∀av cv w',Below w.heap.size w w'→Fr w' w.heap.size e av m cv news→K (a.put o.dst (.slice av m cv)) w'):
 if Region.wanted o (yielded ops a.tmps)=true then Oper.wp Tryz.prog o a w K Q else E:=by
 have hw:Region.wanted o (yielded ops a.tmps)=true:=by simp[Region.wanted,hgd]
 rw[yA hw];refine yJf s x t ho e z bytes ht hinfo hzs hbb A0 0 [] hs (Rd.void _ _) yHn A m c news hx hr h1 yEn fun av cv w' h2 h3 h4 h5=> ?_;rw[zP0]at h3 h4 ⊢;rw[zS0]at h3 h4;exact h av cv w' h2 ⟨h3,h4,fun hm=>(h5 hm).2.1⟩
theorem yLf {ops:Array Oper} {o:Oper} {a:Act} {K:Act→World→Prop} {Q:Exit→Act→World→Prop} {E:Prop} (W0:World) (s x:Operand) (t:TypeId)
 (ho:o.op=.call {callee:=.builtin .append,args:=#[s,x],argTypes:=#[t,t]}) (hgd:o.guard=none)
 (e:TypeId) (z:Value) (bytes:Nat) (ht:Tryz.prog.underlying t=some (.slice e)) (hinfo:(Tryz.prog.info? e).map (fun i=>(i.zero,i.size,i.bytes))=some (some z,1,bytes)) (hzs:z.cells.size=1) (hbb:bytes≤100)
 (A0:Option Addr) (A:Option Addr) (m c:Nat) (news:List Value) (hr:Rd W0 A m news) (h1:∀u∈news,u.oneCell'=true) (hnm:m≤1000000)
 (hs:a.eval s=.slice A0 0 0) (hx:a.eval x=.slice A m c) (hbel:Below W0.heap.size W0 w)
 (h:∀av cv w',Below w.heap.size w w'→Below W0.heap.size W0 w'→Fr w' W0.heap.size e av m cv news→K (a.put o.dst (.slice av m cv)) w'):
 if Region.wanted o (yielded ops a.tmps)=true then Oper.wp Tryz.prog o a w K Q else E:=
 yKf hgd s x t ho e z bytes ht hinfo hzs hbb A0 hs A m c news hx (hr.below hbel) h1 hnm fun av cv w' h2 h3=>h av cv w' h2 (hbel.trans (h2.mono hbel.size)) (h3.base hbel.size)
end
theorem Bx.set0 {W:World} {a b:Option Addr} {g n c m d:Nat} (h:Bx W g a n c b m d) (a':Option Addr) (n' c':Nat):Bx (W.setCell ⟨g,0,none⟩ (.slice a' n' c')) g a' n' c' b m d:=by
 unfold Bx at h ⊢;simp[World.setCell,yD0,h]
end
section
open Go.RowKit
set_option maxRecDepth 10000
section
variable {w:World}
end
section
variable {w:World}
end
end
section
open Go.RowKit
def Stb (P:World→Prop):Prop:=∀w w',P w→Below w.heap.size w w'→P w'
theorem Stb.and {P Q:World→Prop} (h:Stb P) (g:Stb Q):Stb fun w=>P w∧Q w:=fun w w' k hb=>⟨h w w' k.1 hb,g w w' k.2 hb⟩
theorem Stb.bel (W:World):Stb fun w=>Below W.heap.size W w:=fun _ _ h hb=>h.trans (hb.mono h.size)
theorem Stb.bx {g:Nat} {a b:Option Addr} {n c m d:Nat}:Stb fun w=>Bx w g a n c b m d:=fun _ _ h hb=>h.below hb h.lt
theorem Stb.vl {a b:Option Addr} {n m:Nat} {l:List Int} {es:List ByteArray}:Stb fun w=>Vl w a n b m l es:=fun _ _ h hb=>h.below hb
theorem Stb.triv {p:Prop}:Stb fun _=>p:=fun _ _ h _=>h
structure Lv (P:World→Prop) (w:World):Prop where
 out:P w
theorem yMf {P:World→Prop} {w:World} {f:FuncId} {args:Array Value} {R:Ending→World→Prop} (h:Lv P w) (hc:Calls Tryz.prog f args w fun e w'=>R e w'∧Below w.heap.size w w')
 (hs:Stb P:=by repeat' (first|exact Stb.bel _|exact Stb.bx|exact Stb.vl|refine Stb.and ?_ ?_|exact Stb.triv)):Calls Tryz.prog f args w fun e w'=>R e w'∧Lv P w':=hc.mono fun _ _ k=>⟨k.1,⟨hs _ _ h.out k.2⟩⟩
end
section
open Go.RowKit
theorem yNf:∀l:List Int,prD l=pr l
 |[]=>rfl
 |x::r=>by show x*prD r=x*pr r;rw[yNf r]
def AIs (l:List Int) (es:List ByteArray):Option Ar→Prop
 |some q=>q.1=l∧es=q.2.map S∧MayVl l es∧∀x∈q.2,x.natAbs<lim
 |none=>yL4 l es=false
theorem yOf (l:List Int) (es:List ByteArray):∃o,AIs l es o:=by
 cases h:yL4 l es
 · exact⟨none,h⟩
 · have hm:=yN4.1 h
   obtain⟨xs,h1,h2⟩:=zNd (es:=es) fun s hs=>by
    obtain⟨j,hj,rfl⟩:=yP hs;have:=hm.all j hj;rwa [yJ,yM hj]at this
   exact⟨some (l,xs),rfl,h1,hm,h2⟩
theorem AIs.may {l:List Int} {es:List ByteArray} {o:Option Ar} (h:AIs l es o):yL4 l es=o.isSome:=by
 cases o with
 |none=>exact h
 |some q=>exact yN4.2 h.2.2.1
def TS (o:Option Ar):List Int×List ByteArray:=match o with
 |some q=>(q.1,q.2.map S)
 |none=>([],[])
def yPf (l:List Int) (es:List ByteArray) (ec:Int) (W:World) (e:Ending) (W':World):Prop:=
 ∃a n c b m d,e=.returned (.tuple #[.agg #[.slice a n c,.slice b m d],.int .i64 ec])∧Vl W' a n b m l es∧Cp n c m d∧Below W.heap.size W W'
theorem yQf (l:List ByteArray) (s:ByteArray):zTf (l++[s])=zTf l++[.string s]:=by simp[zTf]
theorem Bx.newG (W:World) (g:Nat) (hg:g=W.heap.size) (a:Option Addr) (n c:Nat) (b:Option Addr) (m d:Nat):Bx (W.alloc (.cells #[.slice a n c,.slice b m d] 25)) g a n c b m d:=by rw[hg];exact Bx.new W a n c b m d
theorem Bx.set1 {W:World} {g:Nat} {a:Option Addr} {n c:Nat} {b:Option Addr} {m d:Nat} (h:Bx W g a n c b m d) (b':Option Addr) (m' d':Nat):Bx (W.setCell ⟨g,1,none⟩ (.slice b' m' d')) g a n c b' m' d':=by
 unfold Bx at h ⊢;simp[World.setCell,yD0,h]
theorem yRf {w:World} {B n:Nat} {e:TypeId} {v:Value} {xs:List Value} (h:w.ownsRow B e 1 v n xs) {p:Addr} (hp:p.block<B) (u:Value):(w.setCell p u).ownsRow B e 1 v n xs:=by
 refine⟨h.1,?_⟩;rcases h.2 with h0|⟨g,cap,cur,e1,e2,hg,h2⟩
 · exact .inl h0
 · exact .inr ⟨g,cap,cur,e1,e2,(zX0 _ _ _ g yEn).trans hg,h2⟩
end
end Go.Proofs.YtcfbjdplhgdpfaaGreatDoor

import Derived.Test.YtbijncndjlmmdaaGreatDoorMaq
import Derived.Shelf.Abstract
import Derived.Shelf.RegionOpen
import Derived.WalkKit
import Derived.OwnWalkIn
import Derived.TacticsInMore
import Derived.LoopNIn
import Derived.LoopIn
import Derived.Stop.RegionWithIn
import Derived.Lib.Hide
import Derived.Maps.AppendAt
set_option maxHeartbeats 6400000
set_option maxRecDepth 100000
namespace Go.Proofs.YtbijncndjlmmdaaGreatDoor
set_option linter.unusedVariables false
set_option linter.unusedSimpArgs false
open Go.RowKit Go.Shelf
attribute [local go_sem] Oper.semAt_some
structure PrB (W0:World) (B:Nat) (N:Nat) (v w:Array Value) (W:World):Prop where
 bv:W.heap[B]?=some (.cells v 25 (0,0))
 bw:W.heap[B+1]?=some (.cells w 25 (0,0))
 bs:Boxed W (B+2) 3 (.int .i64 N)
 old:∀b,b<W0.heap.size→W.heap[b]?=W0.heap[b]?
def PrK (W0:World) (B:Nat) (X Y:World):Prop:=∀b,(b<W0.heap.size∨(B≤b∧b<B+3))→Y.heap[b]?=X.heap[b]?
section
variable {W0 X Y W:World} {B N:Nat} {v w:Array Value}
theorem PrB.kept (h:PrB W0 B N v w X) (k:PrK W0 B X Y):PrB W0 B N v w Y:=
 ⟨(k B (.inr ⟨by omega,by omega⟩)).trans h.bv,(k (B+1) (.inr ⟨by omega,by omega⟩)).trans h.bw,(k (B+2) (.inr ⟨by omega,by omega⟩)).trans h.bs,fun b hb=>(k b (.inl hb)).trans (h.old b hb)⟩
theorem PrB.below (h:PrB W0 B N v w X) (hs:W0.heap.size≤B) (hb:Below X.heap.size X Y):PrB W0 B N v w Y:=by
 have l2:=h.bs.lt
 exact h.kept fun b hb2=>hb.block b (by omega)
theorem Vl.blocks {a:Option Addr} {n:Nat} {b:Option Addr} {m:Nat} {l:List Int} {es:List ByteArray} (h:Vl W0 a n b m l es) (hb:∀b,b<W0.heap.size→W.heap[b]?=W0.heap[b]?):Vl W a n b m l es:=by
 refine⟨⟨h.s.1,fun hn=> ?_⟩,⟨h.t.1,fun hn=> ?_⟩,h.mm⟩
 · obtain⟨g,off,e,hc⟩:=h.s.2 hn
   exact⟨g,off,e,fun j hj=>(World.cell?_of_block (a:=⟨g,off+j,none⟩) (hb g (World.block_lt_of_cell? W0 _ (hc j hj)))).trans (hc j hj)⟩
 · obtain⟨g,off,e,hc⟩:=h.t.2 hn
   exact⟨g,off,e,fun j hj=>(World.cell?_of_block (a:=⟨g,off+j,none⟩) (hb g (World.block_lt_of_cell? W0 _ (hc j hj)))).trans (hc j hj)⟩
end
theorem grown_none {W W':World} {B:Nat} (h:Below W.heap.size W W'):W.grownBy W' (some B):=⟨h.os,h.tape,h.output,h.size,fun i hi _=>h.block i hi⟩
def elR (u:Bool) (es:List ByteArray) (i:Nat):ByteArray:=es.getD (if u then 0 else i) ByteArray.empty
def encR (u v:Bool) (es fs:List ByteArray) (i:Nat):Array Value:=#[.string (elR u es i),.string (elR v fs i)]
theorem two_ways {e:Ending} {A B:Prop} (h:(e=.returned (.bool true)∧A)∨(e=.returned (.bool false)∧B)):∃b:Bool,e=.returned (.bool b)∧(b=true→A)∧(b=false→B):=by
 rcases h with⟨h1,h2⟩|⟨h1,h2⟩
 · exact⟨true,h1,fun _=>h2,fun h=>by cases h⟩
 · exact⟨false,h1,fun h=>(by cases h),fun _=>h2⟩
theorem pairs_gives (n:Nat) (W0:World) (B C N:Nat) {a1 b1 a2 b2:Option Addr} {n1 c1 m1 d1 n2 c2 m2 d2:Nat} {l k:List Int} {es fs:List ByteArray} (hV:Vl W0 a1 n1 b1 m1 l es) (hU:Vl W0 a2 n2 b2 m2 k fs)
 (h1:∀i,i<N→(if nx l then 0 else i)<m1) (h2:∀i,i<N→(if nx k then 0 else i)<m2) (hN:N≤1000000) (hs:W0.heap.size≤B)
 (w:World) (hP:PrB W0 B N #[.slice a1 n1 c1,.slice b1 m1 d1] #[.slice a2 n2 c2,.slice b2 m2 d2] w):
 Gives Fence.wide n Tryz.prog 213 #[.pointer (some ⟨B+2,0,none⟩),.pointer (some ⟨B,0,none⟩),.pointer (some ⟨B+1,0,none⟩)] (encR (nx l) (nx k) es fs) C N (PrK W0 B) w:=by
 intro y J Jx W hW hJ hY h0
 have hPW:PrB W0 B N #[.slice a1 n1 c1,.slice b1 m1 d1] #[.slice a2 n2 c2,.slice b2 m2 d2] W:=hP.below hs hW
 refine callsIn_of_wp Tryz.func213 rfl trivial ?_ rfl
 simp only[Tryz.ntmps213,List.size_toArray,List.length_cons,List.length_nil,Nat.reduceAdd,Nat.reduceSub,Array.replicate_succ,Array.replicate_zero,List.push_toArray,List.append_toArray,List.nil_append,List.cons_append]
 have c0:=hPW.bs.cell
 have HV:=Lib.hid hV
 have HU:=Lib.hid hU
 have H1:=Lib.hid h1
 have H2:=Lib.hid h2
 have HY:=Lib.hid hY
 have HJ:=Lib.hid hJ
 have HS:=Lib.hid hs
 clear hV hU h1 h2 hY hJ hP hW hs
 gi_wp2
 gi_loopw [7] (fun iv wr=>∃i:Nat,iv=.int .i64 i∧i≤N∧PrB W0 B N #[.slice a1 n1 c1,.slice b1 m1 d1] #[.slice a2 n2 c2,.slice b2 m2 d2] wr∧J i wr) (fun iv _=>N-(intOf iv).toNat)
 case atStart=>exact⟨0,rfl,Nat.zero_le _,hPW,h0⟩
 case round=>
  obtain⟨i,rfl,hi,hb,hj⟩:=hrel
  clear c0 hPW h0
  by_cases hlt:i<N
  · have e2:(i:Int)<(N:Int):=by omega
    have v0:wr.cell? ⟨B,0,none⟩=some (.slice a1 n1 c1):=by rw[cell_of_row _ _ 0 _ _ _ hb.bv];rfl
    have v1:wr.cell? ⟨B,1,none⟩=some (.slice b1 m1 d1):=by rw[cell_of_row _ _ 1 _ _ _ hb.bv];rfl
    have u0:wr.cell? ⟨B+1,0,none⟩=some (.slice a2 n2 c2):=by rw[cell_of_row _ _ 0 _ _ _ hb.bw];rfl
    have u1:wr.cell? ⟨B+1,1,none⟩=some (.slice b2 m2 d2):=by rw[cell_of_row _ _ 1 _ _ _ hb.bw];rfl
    have lB:B+1<wr.heap.size:=by have:=hb.bs.lt;omega
    obtain⟨s1,hs1⟩:∃s,es.getD (if nx l then 0 else i) ByteArray.empty=s:=⟨_,rfl⟩
    obtain⟨s2,hs2⟩:∃s,fs.getD (if nx k then 0 else i) ByteArray.empty=s:=⟨_,rfl⟩
    have hE:encR (nx l) (nx k) es fs i=#[.string s1,.string s2]:=by unfold encR elR;rw[hs1,hs2]
    have K1:=element_is (c:=c1) (d:=d1) wr.drew (HV.out.blocks hb.old) i (H1.out i hlt)
    have K2:=fun z (hz:Below wr.heap.size wr z)=>element_is (c:=c2) (d:=d2) z ((HU.out.blocks hb.old).below hz) i (H2.out i hlt)
    rw[hs1]at K1
    rw[hs2]at K2
    replace K1:=Lib.hid K1
    replace K2:=Lib.hid K2
    have HE:=Lib.hid hE
    have HB:=Lib.hid hb
    have HJi:=Lib.hid hj
    have hbw:Below wr.heap.size wr wr.drew:=Below.drew (Below.refl _ _)
    clear hE hs1 hs2 hb hj
    gi_wp2
    gi_region_with (first
     |(refine⟨trivial,fun h=>(by cases h),?_⟩;gi_at_call 214;(with_reducible refine(callsIn_wide.2 K1.out).mono ?_);rintro e w1 ⟨rfl,hq1⟩;have hq2:=hbw.trans (hq1.mono hbw.size);have z0:=(hq2.cell (p:=⟨B+1,0,none⟩) lB).trans u0;have z1:=(hq2.cell (p:=⟨B+1,1,none⟩) lB).trans u1)
     |(refine⟨trivial,fun h=>(by cases h),?_⟩;gi_at_call 214;refine(callsIn_wide.2 (K2.out _ hq2)).mono ?_;rintro e w2 ⟨rfl,hq3⟩;have hq4:=hq2.trans (hq3.mono hq2.size);obtain⟨fn,tmps,assign,body,hy,hR⟩:=HY.out i w2 hlt (HJ.out _ _ _ HJi.out (grown_none hq4));rw[HE.out]at hy)
     |(refine⟨fun h=>(by cases h),hR.mono ?_⟩;rintro e w3 hh;obtain⟨bb,rfl,hh1,hh2⟩:=two_ways hh))
    all_goals
     cases bb
     · have hx:=hh2 rfl
       clear hh1 hh2 hy hR
       gi_wp2
       refine bodyPost_ret (results_none rfl _ _ _) rfl ?_
       exact⟨⟨_,rfl⟩,.inr hx⟩
     · obtain⟨hj3,hk3⟩:=hh1 rfl
       have hb3:=(HB.out.below HS.out hq4).kept hk3
       clear hh1 hh2 hy hR
       gi_wp2
       go_roundw
       case rel=>exact⟨i+1,by go_num,by omega,hb3,hj3⟩
       case measure=>simp[intOf];omega
  · have e2:¬(i:Int)<(N:Int):=by omega
    obtain rfl:i=N:=by omega
    gi_wp2
    go_end0
    exact⟨⟨_,rfl⟩,.inl hj⟩
theorem rows2 (W:World) (o1 o2:Obj):((W.alloc o1).alloc o2).heap[W.heap.size]?=some o1∧((W.alloc o1).alloc o2).heap[W.heap.size+1]?=some o2∧Below W.heap.size W ((W.alloc o1).alloc o2):=by
 have s1:(W.alloc o1).heap.size=W.heap.size+1:=by simp
 have h1:=heap_alloc_new W o1
 have h2:=heap_alloc_new (W.alloc o1) o2
 rw[s1]at h2
 exact⟨(Below.heap_alloc _ o2 _ (by omega)).trans h1,h2,((Below.refl _ _).alloc (Nat.le_refl _) _).alloc (by omega) _⟩
theorem rows3 (W:World) (o1 o2 o3:Obj):(((W.alloc o1).alloc o2).alloc o3).heap[W.heap.size]?=some o1∧(((W.alloc o1).alloc o2).alloc o3).heap[W.heap.size+1]?=some o2∧(((W.alloc o1).alloc o2).alloc o3).heap[W.heap.size+1+1]?=some o3∧Below W.heap.size W (((W.alloc o1).alloc o2).alloc o3):=by
 have s1:(W.alloc o1).heap.size=W.heap.size+1:=by simp
 have s2:((W.alloc o1).alloc o2).heap.size=W.heap.size+1+1:=by simp
 have h1:=heap_alloc_new W o1
 have h2:=heap_alloc_new (W.alloc o1) o2
 have h3:=heap_alloc_new ((W.alloc o1).alloc o2) o3
 rw[s1]at h2
 rw[s2]at h3
 exact⟨(Below.heap_alloc _ o3 _ (by omega)).trans ((Below.heap_alloc _ o2 _ (by omega)).trans h1),(Below.heap_alloc _ o3 _ (by omega)).trans h2,h3,(((Below.refl _ _).alloc (Nat.le_refl _) _).alloc (by omega) _).alloc (by omega) _⟩
def prW (w:World) (v u:Array Value) (N:Nat):World:=((w.alloc (.cells v 25)).alloc (.cells u 25)).alloc (.cells #[.int .i64 N] 3)
theorem prW_size (w:World) (v u:Array Value) (N:Nat):(prW w v u N).heap.size=w.heap.size+3:=by unfold prW;simp
theorem prW_below (w:World) (v u:Array Value) (N:Nat):Below w.heap.size w (prW w v u N):=(((Below.refl _ w).alloc (Nat.le_refl _) _).alloc (by simp) _).alloc (by simp;omega) _
theorem prW_is (w:World) (v u:Array Value) (N:Nat):PrB w w.heap.size N v u (prW w v u N):=by
 obtain⟨h1,h2,h3,hb⟩:=rows3 w (.cells v 25) (.cells u 25) (.cells #[.int .i64 N] 3)
 exact⟨h1,h2,h3,fun b hb'=>hb.block b hb'⟩
def prF (w:World):Value:=.func (.func 213) #[] #[.pointer (some ⟨w.heap.size+2,0,none⟩),.pointer (some ⟨w.heap.size,0,none⟩),.pointer (some ⟨w.heap.size+1,0,none⟩)]
theorem pairs_is (v0 v1 u0 u1:Value) (a:Option Addr) (n c:Nat) (l:List Int) (W:World) (h:Sl W a n l) (he:szE l=0) (N:Nat) (hN:pr l=N):
 Calls Tryz.prog 188 #[.agg #[v0,v1],.agg #[u0,u1],.slice a n c] W fun e W'=>e=.returned (prF W)∧prW W #[v0,v1] #[u0,u1] N=W':=by
 have hb:Below W.heap.size W ((W.alloc (.cells #[v0,v1] 25)).alloc (.cells #[u0,u1] 25)):=((Below.refl _ W).alloc (Nat.le_refl _) _).alloc (by simp) _
 have K:=Size_is a n c l _ (h.below hb)
 unfold SizeIs at K
 rw[szV_pr he,he,hN]at K
 replace K:=Lib.hid K
 clear hb h he hN
 go_enter Tryz.func188,Tryz.ntmps188
 go_wp2_with fail
 refine K.out.mono ?_
 rintro e w1 ⟨rfl,rfl⟩
 go_wp2_with fail
 go_ret
 exact⟨rfl,rfl⟩
end Go.Proofs.YtbijncndjlmmdaaGreatDoor
namespace Go.Proofs.YtbijncndjlmmdaaGreatDoor
set_option linter.unusedVariables false
set_option linter.unusedSimpArgs false
open Go.RowKit
theorem owns_slc {w:World} {base n:Nat} {v:Value} {l:List Int} (h:w.ownsRow base 3 1 v n (valsI l)):∃a c,v=.slice a n c∧Sl w a n l∧n≤c∧c≤maxLen:=by
 obtain⟨a,c,rfl⟩:=own_form h
 refine⟨a,c,rfl,own_sl h,?_⟩
 rcases h.2 with⟨e,h0⟩|⟨g,cap,cur,e,_,_,h1,h2,_⟩
 · injection e with _ _ e
   subst e
   exact⟨by omega,by unfold maxLen;omega⟩
 · injection e with _ _ e
   subst e
   exact⟨h1,h2⟩
theorem own_caps {w:World} {base n c:Nat} {a:Option Addr} {e:TypeId} {xs:List Value} (h:w.ownsRow base e 1 (.slice a n c) n xs):n≤c∧c≤maxLen:=by
 rcases h.2 with⟨e,h0⟩|⟨g,cap,cur,e,_,_,h1,h2,_⟩
 · injection e with _ _ e
   subst e
   exact⟨by omega,by unfold maxLen;omega⟩
 · injection e with _ _ e
   subst e
   exact⟨h1,h2⟩
def SlCPost (l:List Int) (W:World) (x:Ending) (W':World):Prop:=∃a' n' c',x=.returned (.slice a' n' c')∧Sl W' a' n' l∧n'≤20∧n'≤c'∧c'≤maxLen∧Below W.heap.size W W'
theorem Clone_c (a:Option Addr) (n c:Nat) (l:List Int) (W:World) (h:Sl W a n l) (hn:n≤20):Calls Tryz.prog 71 #[.slice a n c] W (SlCPost l W):=by
 rcases a with _|a
 · have h0:n=0:=by
    rcases Nat.eq_zero_or_pos n with h0|h0
    · exact h0
    · obtain⟨b,off,e,_⟩:=h.2 h0;cases e
   subst h0
   obtain rfl:=List.length_eq_zero_iff.1 h.1
   refine(Tryz.slices_Clone_int_nil 0 c W).mono ?_
   rintro x w ⟨rfl,rfl⟩
   exact⟨none,0,0,rfl,Sl.nil _ _,by omega,by omega,by unfold maxLen;omega,Below.refl _ _⟩
 · by_cases h0:n=0
   · subst h0
     obtain rfl:=List.length_eq_zero_iff.1 h.1
     refine(Tryz.slices_Clone_int_zero a c W).mono ?_
     rintro x w ⟨v',rfl,hown,_,hb⟩
     obtain⟨a',c',rfl,hs,q1,q2⟩:=owns_slc (l:=[]) hown
     exact⟨a',0,c',rfl,hs,by omega,q1,q2,hb⟩
   · obtain⟨b,off,e,hc⟩:=h.2 (by omega)
     injection e with e
     subst e
     refine(Tryz.slices_Clone_int b off n c l W (by rw[h.1];exact Nat.le_refl _) (by omega) (fun j hj=>hc j (by rw[←h.1];exact hj))).mono ?_
     rintro x w ⟨v',rfl,hown,_,hb⟩
     rw[List.take_of_length_le (by rw[h.1];exact Nat.le_refl _)]at hown
     obtain⟨a',c',rfl,hs,q1,q2⟩:=owns_slc hown
     exact⟨a',n,c',rfl,hs,hn,q1,q2,hb⟩
def MtCPost (l:List Int) (e:Int) (W:World) (x:Ending) (W':World):Prop:=∃a' n' c',x=.returned (.tuple #[.slice a' n' c',.int .i64 e])∧Sl W' a' n' l∧n'≤20∧n'≤c'∧c'≤maxLen∧Below W.heap.size W W'
theorem Meet_c (a1 a2:Option Addr) (n c m d:Nat) (l k:List Int) (W:World) (h1:Sl W a1 n l) (h2:Sl W a2 m k) (hn:n≤20) (hm:m≤20):
 Calls Tryz.prog 187 #[.slice a1 n c,.slice a2 m d] W (MtCPost (mtV l k) (mtE l k) W):=by
 have K:=Lib.hid (Same_is a1 a2 n c m d l k W h1 h2 (by omega) (by omega))
 have hl:=h1.1
 have hk:=h2.1
 have HL:=Lib.hid (And.intro hl hk)
 have H1:=Lib.hid h1
 have H2:=Lib.hid h2
 have C1:=Lib.hid (fun w (hw:Below W.heap.size W w)=>Clone_c a1 n c l w (h1.below hw) hn)
 have C2:=Lib.hid (fun w (hw:Below W.heap.size W w)=>Clone_c a2 m d k w (h2.below hw) hm)
 obtain⟨b,hb⟩:∃b,b=(l==k):=⟨_,rfl⟩
 rw[←hb]at K
 have HB:=Lib.hid hb
 clear hb h1 h2 hl hk
 by_cases c1:b=true
 · subst c1
   have e1:mtE l k=0:=if_pos (.inl HB.out.symm)
   have e2:mtV l k=l:=if_pos (.inl HB.out.symm)
   rw[e1,e2]
   clear e1 e2
   go_enter Tryz.func187,Tryz.ntmps187
   go_wp2_with fail
   refine K.out.mono ?_
   rintro x w1 ⟨rfl,hb1⟩
   go_wp2_with fail
   refine(C1.out _ hb1).mono ?_
   rintro x w2 ⟨a',n',c',rfl,hs,hn',hnc,hcm,hb2⟩
   go_wp2_with fail
   go_ret2
   exact⟨a',n',c',rfl,hs,hn',hnc,hcm,hb1.trans (hb2.mono hb1.size)⟩
 obtain rfl:b=false:=by simpa using c1
 by_cases c2:m=0
 · subst c2
   have e1:mtE l k=0:=if_pos (.inr HL.out.2)
   have e2:mtV l k=l:=if_pos (.inr HL.out.2)
   rw[e1,e2]
   clear e1 e2
   go_enter Tryz.func187,Tryz.ntmps187
   go_wp2_with fail
   refine K.out.mono ?_
   rintro x w1 ⟨rfl,hb1⟩
   go_wp2_with fail
   refine(C1.out _ hb1).mono ?_
   rintro x w2 ⟨a',n',c',rfl,hs,hn',hnc,hcm,hb2⟩
   go_wp2_with fail
   go_ret2
   exact⟨a',n',c',rfl,hs,hn',hnc,hcm,hb1.trans (hb2.mono hb1.size)⟩
 have c2':(m:Int)≠0:=by omega
 have hno:¬((l==k)=true∨k.length=0):=by
  rintro(h|h)
  · rw[←HB.out]at h;cases h
  · have:=HL.out.2;omega
 by_cases c3:n=0
 · subst c3
   have e1:mtE l k=0:=by unfold mtE;rw[if_neg hno,if_pos HL.out.1]
   have e2:mtV l k=k:=by unfold mtV;rw[if_neg hno,if_pos HL.out.1]
   rw[e1,e2]
   clear e1 e2 hno
   go_enter Tryz.func187,Tryz.ntmps187
   go_wp2_with fail
   refine K.out.mono ?_
   rintro x w1 ⟨rfl,hb1⟩
   go_wp2_with fail
   refine(C2.out _ hb1).mono ?_
   rintro x w2 ⟨a',n',c',rfl,hs,hn',hnc,hcm,hb2⟩
   go_wp2_with fail
   go_ret2
   exact⟨a',n',c',rfl,hs,hn',hnc,hcm,hb1.trans (hb2.mono hb1.size)⟩
 have c3':(n:Int)≠0:=by omega
 have e1:mtE l k=4:=by unfold mtE;rw[if_neg hno,if_neg (by rw[HL.out.1];exact c3)]
 have e2:mtV l k=[]:=by unfold mtV;rw[if_neg hno,if_neg (by rw[HL.out.1];exact c3)]
 rw[e1,e2]
 clear e1 e2 hno
 go_enter Tryz.func187,Tryz.ntmps187
 go_wp2_with fail
 refine K.out.mono ?_
 rintro x w1 ⟨rfl,hb1⟩
 go_wp2_with fail
 go_ret2
 exact⟨none,0,0,rfl,Sl.nil _ _,by omega,by omega,by unfold maxLen;omega,hb1⟩
theorem put_boxed {W:World} {B:Nat} {t:TypeId} {v:Value} (h:Boxed W B t v) {l:Nat} (o':Obj) (hne:B≠l):Boxed (W.putObj l o') B t v:=(World.putObj_heap_other hne).trans h
theorem put_below {A:Nat} {w W:World} (h:Below A w W) {l:Nat} (o':Obj) (hl:A≤l):Below A w (W.putObj l o'):=
 h.trans ⟨rfl,rfl,rfl,by simp,fun k hk=>World.putObj_heap_other (by omega)⟩
theorem not_row {W:World} {B base:Nat} {v:Value} {xs:List Value} {n:Nat} {e:TypeId} (h:W.ownsRow base e 1 v n xs) (hB:B<base):v.ownBlock=none∨v.ownBlock≠some B:=by
 rcases h.2 with⟨rfl,_⟩|⟨g,cap,cur,rfl,hb,_⟩
 · exact .inl rfl
 · refine .inr fun e=> ?_
   injection e with e
   have:g=B:=e
   omega
theorem weak_row {W:World} {base base' k:Nat} {e:TypeId} {v:Value} {xs:List Value} (h:W.ownsRow base e 1 v k xs) (hb:base'≤base):W.ownsRow base' e 1 v k xs:=by
 refine⟨h.1,?_⟩
 rcases h.2 with h|⟨g,cap,cur,e1,h1,h2⟩
 · exact .inl h
 · exact .inr ⟨g,cap,cur,e1,by omega,h2⟩
theorem below_boxed {X Y:World} {B S:Nat} {t:TypeId} {v:Value} (h:Boxed X B t v) (hb:Below S X Y) (hS:B<S):Boxed Y B t v:=(hb.block B hS).trans h
theorem keeps_below {X Y:World} (h:Below X.heap.size X Y):KeepsOthers X Y:=⟨h.size,fun k o hk _=>(h.block k (Array.getElem?_eq_some_iff.1 hk).1).trans hk⟩
theorem Sl.again {W:World} {a:Option Addr} {n:Nat} {l:List Int} (h:Sl W a n l) {q:Addr} {u:Value} (hq:W.cell? q=some u):Sl (W.setCell q u) a n l:=by
 refine⟨h.1,fun hn=> ?_⟩
 obtain⟨g,off,e,hc⟩:=h.2 hn
 refine⟨g,off,e,fun j hj=> ?_⟩
 by_cases hp:q=⟨g,off+j,none⟩
 · have h1:=hc j hj
   rw[←hp]at h1 ⊢
   rw[World.cell?_setCell_same' _ _ _ (by rw[hq];rfl),←h1,hq]
 · rw[World.cell?_setCell_other _ _ _ _ hp];exact hc j hj
theorem St.notext {W:World} {a:Option Addr} {n:Nat} {l:List ByteArray} (h:St W a n l) {q:Addr} {u v:Value} (hq:W.cell? q=some u) (hu:∀s,u≠ .string s):St (W.setCell q v) a n l:=by
 refine⟨h.1,fun hn=> ?_⟩
 obtain⟨g,off,e,hc⟩:=h.2 hn
 refine⟨g,off,e,fun j hj=> ?_⟩
 have hp:q≠⟨g,off+j,none⟩:=by
  rintro rfl
  rw[hc j hj]at hq
  injection hq with hq
  exact hu _ hq.symm
 rw[World.cell?_setCell_other _ _ _ _ hp];exact hc j hj
end Go.Proofs.YtbijncndjlmmdaaGreatDoor

import Derived.Test.YtcfbjdplhgdpfaaGreatDoorMax
import Derived.Maps.AppendAt
set_option maxRecDepth 10000
namespace Go.Proofs.YtcfbjdplhgdpfaaGreatDoor
set_option linter.unusedVariables false
set_option linter.unusedSimpArgs false
open Go.RowKit
theorem owns_slc {w:World} {base n:Nat} {v:Value} {l:List Int} (h:w.ownsRow base 3 1 v n (valsI l)):∃a c,v=.slice a n c∧Sl w a n l∧n≤c∧c≤maxLen:=by
 obtain⟨a,c,rfl⟩:=own_form h
 refine⟨a,c,rfl,own_sl h,?_⟩
 rcases h.2 with⟨e,h0⟩|⟨g,cap,cur,e,_,_,h1,h2,_⟩
 · injection e with _ _ e
   subst e
   exact⟨by omega,by unfold maxLen;omega⟩
 · injection e with _ _ e
   subst e
   exact⟨h1,h2⟩
theorem own_caps {w:World} {base n c:Nat} {a:Option Addr} {e:TypeId} {xs:List Value} (h:w.ownsRow base e 1 (.slice a n c) n xs):n≤c∧c≤maxLen:=by
 rcases h.2 with⟨e,h0⟩|⟨g,cap,cur,e,_,_,h1,h2,_⟩
 · injection e with _ _ e
   subst e
   exact⟨by omega,by unfold maxLen;omega⟩
 · injection e with _ _ e
   subst e
   exact⟨h1,h2⟩
def SlCPost (l:List Int) (W:World) (x:Ending) (W':World):Prop:=∃a' n' c',x=.returned (.slice a' n' c')∧Sl W' a' n' l∧n'≤20∧n'≤c'∧c'≤maxLen∧Below W.heap.size W W'
theorem Clone_c (a:Option Addr) (n c:Nat) (l:List Int) (W:World) (h:Sl W a n l) (hn:n≤20):Calls Tryz.prog 100 #[.slice a n c] W (SlCPost l W):=by
 rcases a with _|a
 · have h0:n=0:=by
    rcases Nat.eq_zero_or_pos n with h0|h0
    · exact h0
    · obtain⟨b,off,e,_⟩:=h.2 h0;cases e
   subst h0
   obtain rfl:=List.length_eq_zero_iff.1 h.1
   refine(Tryz.slices_Clone_int_nil 0 c W).mono ?_
   rintro x w ⟨rfl,rfl⟩
   exact⟨none,0,0,rfl,Sl.nil _ _,by omega,by omega,by unfold maxLen;omega,Below.refl _ _⟩
 · by_cases h0:n=0
   · subst h0
     obtain rfl:=List.length_eq_zero_iff.1 h.1
     refine(Tryz.slices_Clone_int_zero a c W).mono ?_
     rintro x w ⟨v',rfl,hown,_,hb⟩
     obtain⟨a',c',rfl,hs,q1,q2⟩:=owns_slc (l:=[]) hown
     exact⟨a',0,c',rfl,hs,by omega,q1,q2,hb⟩
   · obtain⟨b,off,e,hc⟩:=h.2 (by omega)
     injection e with e
     subst e
     refine(Tryz.slices_Clone_int b off n c l W (by rw[h.1];exact Nat.le_refl _) (by omega) (fun j hj=>hc j (by rw[←h.1];exact hj))).mono ?_
     rintro x w ⟨v',rfl,hown,_,hb⟩
     rw[List.take_of_length_le (by rw[h.1];exact Nat.le_refl _)]at hown
     obtain⟨a',c',rfl,hs,q1,q2⟩:=owns_slc hown
     exact⟨a',n,c',rfl,hs,hn,q1,q2,hb⟩
def MtCPost (l:List Int) (e:Int) (W:World) (x:Ending) (W':World):Prop:=∃a' n' c',x=.returned (.tuple #[.slice a' n' c',.int .i64 e])∧Sl W' a' n' l∧n'≤20∧n'≤c'∧c'≤maxLen∧Below W.heap.size W W'
theorem Meet_c (a1 a2:Option Addr) (n c m d:Nat) (l k:List Int) (W:World) (h1:Sl W a1 n l) (h2:Sl W a2 m k) (hn:n≤20) (hm:m≤20):
 Calls Tryz.prog 156 #[.slice a1 n c,.slice a2 m d] W (MtCPost (mtV l k) (mtE l k) W):=by
 have K:=Lib.hid (Same_is a1 a2 n c m d l k W h1 h2 (by omega) (by omega))
 have hl:=h1.1
 have hk:=h2.1
 have HL:=Lib.hid (And.intro hl hk)
 have H1:=Lib.hid h1
 have H2:=Lib.hid h2
 have C1:=Lib.hid (fun w (hw:Below W.heap.size W w)=>Clone_c a1 n c l w (h1.below hw) hn)
 have C2:=Lib.hid (fun w (hw:Below W.heap.size W w)=>Clone_c a2 m d k w (h2.below hw) hm)
 obtain⟨b,hb⟩:∃b,b=(l==k):=⟨_,rfl⟩
 rw[←hb]at K
 have HB:=Lib.hid hb
 clear hb h1 h2 hl hk
 by_cases c1:b=true
 · subst c1
   have e1:mtE l k=0:=if_pos (.inl HB.out.symm)
   have e2:mtV l k=l:=if_pos (.inl HB.out.symm)
   rw[e1,e2]
   clear e1 e2
   go_enter Tryz.func156,Tryz.ntmps156
   go_wp2_with fail
   refine K.out.mono ?_
   rintro x w1 ⟨rfl,hb1⟩
   go_wp2_with fail
   refine(C1.out _ hb1).mono ?_
   rintro x w2 ⟨a',n',c',rfl,hs,hn',hnc,hcm,hb2⟩
   go_wp2_with fail
   go_ret2
   exact⟨a',n',c',rfl,hs,hn',hnc,hcm,hb1.trans (hb2.mono hb1.size)⟩
 obtain rfl:b=false:=by simpa using c1
 by_cases c2:m=0
 · subst c2
   have e1:mtE l k=0:=if_pos (.inr HL.out.2)
   have e2:mtV l k=l:=if_pos (.inr HL.out.2)
   rw[e1,e2]
   clear e1 e2
   go_enter Tryz.func156,Tryz.ntmps156
   go_wp2_with fail
   refine K.out.mono ?_
   rintro x w1 ⟨rfl,hb1⟩
   go_wp2_with fail
   refine(C1.out _ hb1).mono ?_
   rintro x w2 ⟨a',n',c',rfl,hs,hn',hnc,hcm,hb2⟩
   go_wp2_with fail
   go_ret2
   exact⟨a',n',c',rfl,hs,hn',hnc,hcm,hb1.trans (hb2.mono hb1.size)⟩
 have c2':(m:Int)≠0:=by omega
 have hno:¬((l==k)=true∨k.length=0):=by
  rintro(h|h)
  · rw[←HB.out]at h;cases h
  · have:=HL.out.2;omega
 by_cases c3:n=0
 · subst c3
   have e1:mtE l k=0:=by unfold mtE;rw[if_neg hno,if_pos HL.out.1]
   have e2:mtV l k=k:=by unfold mtV;rw[if_neg hno,if_pos HL.out.1]
   rw[e1,e2]
   clear e1 e2 hno
   go_enter Tryz.func156,Tryz.ntmps156
   go_wp2_with fail
   refine K.out.mono ?_
   rintro x w1 ⟨rfl,hb1⟩
   go_wp2_with fail
   refine(C2.out _ hb1).mono ?_
   rintro x w2 ⟨a',n',c',rfl,hs,hn',hnc,hcm,hb2⟩
   go_wp2_with fail
   go_ret2
   exact⟨a',n',c',rfl,hs,hn',hnc,hcm,hb1.trans (hb2.mono hb1.size)⟩
 have c3':(n:Int)≠0:=by omega
 have e1:mtE l k=4:=by unfold mtE;rw[if_neg hno,if_neg (by rw[HL.out.1];exact c3)]
 have e2:mtV l k=[]:=by unfold mtV;rw[if_neg hno,if_neg (by rw[HL.out.1];exact c3)]
 rw[e1,e2]
 clear e1 e2 hno
 go_enter Tryz.func156,Tryz.ntmps156
 go_wp2_with fail
 refine K.out.mono ?_
 rintro x w1 ⟨rfl,hb1⟩
 go_wp2_with fail
 go_ret2
 exact⟨none,0,0,rfl,Sl.nil _ _,by omega,by omega,by unfold maxLen;omega,hb1⟩
theorem put_boxed {W:World} {B:Nat} {t:TypeId} {v:Value} (h:Boxed W B t v) {l:Nat} (o':Obj) (hne:B≠l):Boxed (W.putObj l o') B t v:=(World.putObj_heap_other hne).trans h
theorem put_below {A:Nat} {w W:World} (h:Below A w W) {l:Nat} (o':Obj) (hl:A≤l):Below A w (W.putObj l o'):=
 h.trans ⟨rfl,rfl,rfl,by simp,fun k hk=>World.putObj_heap_other (by omega)⟩
theorem not_row {W:World} {B base:Nat} {v:Value} {xs:List Value} {n:Nat} {e:TypeId} (h:W.ownsRow base e 1 v n xs) (hB:B<base):v.ownBlock=none∨v.ownBlock≠some B:=by
 rcases h.2 with⟨rfl,_⟩|⟨g,cap,cur,rfl,hb,_⟩
 · exact .inl rfl
 · refine .inr fun e=> ?_
   injection e with e
   have:g=B:=e
   omega
theorem weak_row {W:World} {base base' k:Nat} {e:TypeId} {v:Value} {xs:List Value} (h:W.ownsRow base e 1 v k xs) (hb:base'≤base):W.ownsRow base' e 1 v k xs:=by
 refine⟨h.1,?_⟩
 rcases h.2 with h|⟨g,cap,cur,e1,h1,h2⟩
 · exact .inl h
 · exact .inr ⟨g,cap,cur,e1,by omega,h2⟩
theorem below_boxed {X Y:World} {B S:Nat} {t:TypeId} {v:Value} (h:Boxed X B t v) (hb:Below S X Y) (hS:B<S):Boxed Y B t v:=(hb.block B hS).trans h
theorem keeps_below {X Y:World} (h:Below X.heap.size X Y):KeepsOthers X Y:=⟨h.size,fun k o hk _=>(h.block k (Array.getElem?_eq_some_iff.1 hk).1).trans hk⟩
theorem Sl.again {W:World} {a:Option Addr} {n:Nat} {l:List Int} (h:Sl W a n l) {q:Addr} {u:Value} (hq:W.cell? q=some u):Sl (W.setCell q u) a n l:=by
 refine⟨h.1,fun hn=> ?_⟩
 obtain⟨g,off,e,hc⟩:=h.2 hn
 refine⟨g,off,e,fun j hj=> ?_⟩
 by_cases hp:q=⟨g,off+j,none⟩
 · have h1:=hc j hj
   rw[←hp]at h1 ⊢
   rw[World.cell?_setCell_same' _ _ _ (by rw[hq];rfl),←h1,hq]
 · rw[World.cell?_setCell_other _ _ _ _ hp];exact hc j hj
end Go.Proofs.YtcfbjdplhgdpfaaGreatDoor

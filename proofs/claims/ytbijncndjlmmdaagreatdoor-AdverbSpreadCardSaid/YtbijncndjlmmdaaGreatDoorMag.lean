import Derived.Test.YtbijncndjlmmdaaGreatDoorMaf
import Derived.Deep.RegionHeld3
set_option maxHeartbeats 1600000
set_option maxRecDepth 10000
namespace Go.Proofs.YtbijncndjlmmdaaGreatDoor
set_option linter.unusedVariables false
set_option linter.unusedSimpArgs false
open Go.RowKit
theorem sign_mul_signs (x y:Int):x.sign*y.sign=(x*y).sign:=(Int.sign_mul x y).symm
theorem mul_made (x y:Int):x.sign*y.sign*((x.natAbs*y.natAbs:Nat):Int)=x*y:=by
 rw[←Int.natAbs_mul,←Int.sign_mul,Int.sign_mul_natAbs]
theorem sign_cases (x:Int):x.sign=1∨x.sign= -1∨x=0:=by
 rcases Int.lt_trichotomy x 0 with h|h|h
 · exact .inr (.inl (Int.sign_eq_neg_one_of_neg h))
 · exact .inr (.inr h)
 · exact .inl (Int.sign_eq_one_of_pos h)
theorem len_of_val {l:List Nat} (nl:Norm l) {n k:Nat} (h:val l=n) (hn:n<1000000000^k):l.length≤k:=len_le_of_lt nl (by rw[h];exact hn)
theorem cases3 {a b c d:Prop} (h:a∨b∨c) (f:c→d):a∨b∨d:=by
 rcases h with h|h|h
 · exact .inl h
 · exact .inr (.inl h)
 · exact .inr (.inr (f h))
structure Box3 (w W:World) (a0 a1 b0 b1:Value):Prop where
 c00:W.cell? ⟨w.heap.size,0,none⟩=some a0
 c01:W.cell? ⟨w.heap.size,1,none⟩=some a1
 c10:W.cell? ⟨w.heap.size+1,0,none⟩=some b0
 c11:W.cell? ⟨w.heap.size+1,1,none⟩=some b1
 q0:W.cell? ⟨w.heap.size+1+1,0,none⟩=some (.int .i64 0)
 q1:W.cell? ⟨w.heap.size+1+1,1,none⟩=some (.slice none 0 0)
 fa:∀i,W.frozen? ⟨w.heap.size,i,none⟩=false
 fb:∀i,W.frozen? ⟨w.heap.size+1,i,none⟩=false
 fr:∀i,W.frozen? ⟨w.heap.size+1+1,i,none⟩=false
 size:w.heap.size+3≤W.heap.size
 far:∀i n,W.cell? ⟨w.heap.size+1+1,i,none⟩≠some (.int .u32 n)
 bel:Below w.heap.size w W
theorem box3 (w:World) (a0 a1 b0 b1:Value) (t:TypeId):Box3 w (((w.alloc (.cells #[a0,a1] t)).alloc (.cells #[b0,b1] t)).alloc (.cells #[.int .i64 0,.slice none 0 0] t)) a0 a1 b0 b1:=by
 have hA:=heap_alloc_new w (.cells #[a0,a1] t)
 have hB:=heap_alloc_new (w.alloc (.cells #[a0,a1] t)) (.cells #[b0,b1] t)
 have hC:=heap_alloc_new ((w.alloc (.cells #[a0,a1] t)).alloc (.cells #[b0,b1] t)) (.cells #[.int .i64 0,.slice none 0 0] t)
 have s1:(w.alloc (.cells #[a0,a1] t)).heap.size=w.heap.size+1:=by simp
 have s2:((w.alloc (.cells #[a0,a1] t)).alloc (.cells #[b0,b1] t)).heap.size=w.heap.size+1+1:=by simp
 have hA2:=(Below.heap_alloc _ (.cells #[.int .i64 0,.slice none 0 0] t) w.heap.size (by rw[s2];omega)).trans ((Below.heap_alloc _ (.cells #[b0,b1] t) w.heap.size (by rw[s1];omega)).trans hA)
 rw[s1]at hB
 have hB2:=(Below.heap_alloc _ (.cells #[.int .i64 0,.slice none 0 0] t) (w.heap.size+1) (by rw[s2];omega)).trans hB
 rw[s2]at hC
 refine⟨?_,?_,?_,?_,?_,?_,fun i=>frozen_of_row _ _ i _ _ hA2,fun i=>frozen_of_row _ _ i _ _ hB2,fun i=>frozen_of_row _ _ i _ _ hC,by simp,fun i n=> ?_,((Below.refl _ _).alloc (Nat.le_refl _) _).alloc (by simp) _ |>.alloc (by simp;omega) _⟩
 · rw[cell_of_row _ _ 0 _ _ _ hA2];rfl
 · rw[cell_of_row _ _ 1 _ _ _ hA2];rfl
 · rw[cell_of_row _ _ 0 _ _ _ hB2];rfl
 · rw[cell_of_row _ _ 1 _ _ _ hB2];rfl
 · rw[cell_of_row _ _ 0 _ _ _ hC];rfl
 · rw[cell_of_row _ _ 1 _ _ _ hC];rfl
 · rw[cell_of_row _ _ i _ _ _ hC]
   rcases i with _|_|i<;>simp
theorem undrew {B:Nat} {w w':World} (h:Below B w.drew w'):Below B w w':=⟨h.os,h.tape,h.output,h.size,h.block⟩
theorem Box3.below {w W W':World} {a0 a1 b0 b1:Value} (h:Box3 w W a0 a1 b0 b1) (hb:Below W.heap.size W W'):Box3 w W' a0 a1 b0 b1:=by
 have hs:=h.size
 exact⟨(hb.cell (p:=⟨_,_,none⟩) (by show w.heap.size<_;omega)).trans h.c00,(hb.cell (p:=⟨_,_,none⟩) (by show w.heap.size<_;omega)).trans h.c01,
  (hb.cell (p:=⟨_,_,none⟩) (by show w.heap.size+1<_;omega)).trans h.c10,(hb.cell (p:=⟨_,_,none⟩) (by show w.heap.size+1<_;omega)).trans h.c11,
  (hb.cell (p:=⟨_,_,none⟩) (by show w.heap.size+1+1<_;omega)).trans h.q0,(hb.cell (p:=⟨_,_,none⟩) (by show w.heap.size+1+1<_;omega)).trans h.q1,
  fun i=>(hb.frozen (p:=⟨_,_,none⟩) (by show w.heap.size<_;omega)).trans (h.fa i),fun i=>(hb.frozen (p:=⟨_,_,none⟩) (by show w.heap.size+1<_;omega)).trans (h.fb i),fun i=>(hb.frozen (p:=⟨_,_,none⟩) (by show w.heap.size+1+1<_;omega)).trans (h.fr i),
  Nat.le_trans hs hb.size,fun i n=>by rw[hb.cell (p:=⟨_,_,none⟩) (by show w.heap.size+1+1<_;omega)];exact h.far i n,h.bel.trans (hb.mono (by omega))⟩
theorem keep2 {w:World} {g g' i k:Nat} {v a b:Value} (h:w.cell? ⟨g,i,none⟩=some v) (hne:g≠g'):((w.setCell ⟨g',0,none⟩ a).setCell ⟨g',k,none⟩ b).cell? ⟨g,i,none⟩=some v:=by
 rw[World.cell?_setCell_other _ _ _ _ (by intro e;injection e with e;exact hne e.symm),World.cell?_setCell_other _ _ _ _ (by intro e;injection e with e;exact hne e.symm),h]
theorem Box3.stored {w W:World} {a0 a1 b0 b1:Value} (h:Box3 w W a0 a1 b0 b1) (u v:Value):
 ((W.setCell ⟨w.heap.size+1+1,0,none⟩ u).setCell ⟨w.heap.size+1+1,1,none⟩ v).cell? ⟨w.heap.size,0,none⟩=some a0∧((W.setCell ⟨w.heap.size+1+1,0,none⟩ u).setCell ⟨w.heap.size+1+1,1,none⟩ v).cell? ⟨w.heap.size,1,none⟩=some a1∧
 ((W.setCell ⟨w.heap.size+1+1,0,none⟩ u).setCell ⟨w.heap.size+1+1,1,none⟩ v).cell? ⟨w.heap.size+1,0,none⟩=some b0∧((W.setCell ⟨w.heap.size+1+1,0,none⟩ u).setCell ⟨w.heap.size+1+1,1,none⟩ v).cell? ⟨w.heap.size+1,1,none⟩=some b1:=
 ⟨keep2 h.c00 (by omega),keep2 h.c01 (by omega),keep2 h.c10 (by omega),keep2 h.c11 (by omega)⟩
theorem Box3.res {w W:World} {a0 a1 b0 b1:Value} (h:Box3 w W a0 a1 b0 b1) (u v:Value):
 ((W.setCell ⟨w.heap.size+1+1,0,none⟩ u).setCell ⟨w.heap.size+1+1,1,none⟩ v).cell? ⟨w.heap.size+1+1,0,none⟩=some u∧((W.setCell ⟨w.heap.size+1+1,0,none⟩ u).setCell ⟨w.heap.size+1+1,1,none⟩ v).cell? ⟨w.heap.size+1+1,1,none⟩=some v∧Below w.heap.size w ((W.setCell ⟨w.heap.size+1+1,0,none⟩ u).setCell ⟨w.heap.size+1+1,1,none⟩ v):=by
 refine⟨?_,?_,(h.bel.setCell (by show _≤w.heap.size+1+1;omega) _).setCell (by show _≤w.heap.size+1+1;omega) _⟩
 · rw[World.cell?_setCell_other _ _ _ _ (by intro e;injection e with _ e;cases e)];exact World.cell?_setCell_same _ _ _ h.q0
 · exact World.cell?_setCell_same _ _ _ ((World.cell?_setCell_other _ _ _ _ (by intro e;injection e with _ e;cases e)).trans h.q1)
theorem Sz.far {w w':World} {A:Option Addr} {l:List Nat} {g:Nat} (h:Sz w A l) (hf:∀i n,w.cell? ⟨g,i,none⟩≠some (.int .u32 n)) (hb:Only g w w'):Sz w' A l:=by
 rcases h with h|⟨b,o,e,hlt,hc⟩
 · exact .inl h
 · by_cases hl:l=[]
   · subst hl;exact .inr ⟨b,o,e,Nat.lt_of_lt_of_le hlt hb.size,fun i hi=>by simp at hi⟩
   · have hne:b≠g:=by
      rintro rfl
      exact hf _ _ (hc 0 (List.length_pos_iff.2 hl))
     exact .inr ⟨b,o,e,Nat.lt_of_lt_of_le hlt hb.size,fun i hi=>(World.cell?_of_block (a:=⟨b,o+i,none⟩) (hb.block b hlt (by intro e;injection e with e;exact hne e))).trans (hc i hi)⟩
theorem Sz.stored {w W:World} {a0 a1 b0 b1:Value} (h:Box3 w W a0 a1 b0 b1) {A:Option Addr} {l:List Nat} (hA:Sz W A l) (u v:Value):
 Sz ((W.setCell ⟨w.heap.size+1+1,0,none⟩ u).setCell ⟨w.heap.size+1+1,1,none⟩ v) A l:=
 hA.far h.far (((Only.refl _ W).setCell 0 u).setCell 1 v)
def MadeRes (z sz:Int) (w:World) (e:Ending) (w':World):Prop:=∃P l c,e=.returned (.agg #[.int .i64 sz,.slice P l.length c])∧Sz w' P l∧Ok l∧Norm l∧val l=z.natAbs∧Below w.heap.size w w'
theorem made_to (s:Int) (A:Option Addr) (l:List Nat) (c:Nat) (w:World) (hA:Sz w A l) (ol:Ok l) (nl:Norm l) (hs:s=1∨s= -1∨l=[]) (hl:l.length≤1000) {z sz:Int} (hz:s*(val l:Int)=z) (hsz:z.sign=sz):
 Calls Tryz.prog 280 #[.int .i64 s,.slice A l.length c] w (MadeRes z sz w):=by
 subst hz hsz
 refine(made_any s A l c w hA ol nl hs hl).mono ?_
 rintro e w' ⟨v,rfl,⟨A',l',c',rfl,h1,h2,h3,h4⟩,hb⟩
 exact⟨A',l',c',rfl,h1,h2,h3,h4,hb⟩
theorem times_any (x y:Int) (A B:Option Addr) (l m:List Nat) (c d:Nat) (w:World) (hA:Sz w A l) (hB:Sz w B m) (ol:Ok l) (om:Ok m) (nl:Norm l) (nm:Norm m) (hv:val l=x.natAbs) (hv':val m=y.natAbs) (hl:l.length≤100) (hm:m.length≤100):
 Calls Tryz.prog 266 #[.agg #[.int .i64 x.sign,.slice A l.length c],.agg #[.int .i64 y.sign,.slice B m.length d]] w (MadePost (x*y) w):=by
 have hmul:=fun w1 hA1 hB1=>multiplied_any A B l m c d w1 hA1 hB1 ol om (by omega) (by omega)
 rw[hv,hv']at hmul
 have e1:=mul_made x y
 have hs:=sign_cases (x*y)
 rw[←sign_mul_signs]at hs
 have hlen:x.natAbs*y.natAbs<1000000000^200:=by
  have a1:=val_lt ol
  have a2:=val_lt om
  rw[hv]at a1;rw[hv']at a2
  have b1:1000000000^l.length≤1000000000^100:=Nat.pow_le_pow_right (by decide) hl
  have b2:1000000000^m.length≤1000000000^100:=Nat.pow_le_pow_right (by decide) hm
  rw[show(200:Nat)=100+100 from rfl,Nat.pow_add]
  exact Nat.mul_lt_mul_of_lt_of_le (by omega) (by omega) (Nat.pow_pos (by decide))
 obtain⟨sx,hsx⟩:∃sx,sx=x.sign:=⟨_,rfl⟩
 obtain⟨sy,hsy⟩:∃sy,sy=y.sign:=⟨_,rfl⟩
 rw[←hsx,←hsy]at e1 hs
 rw[←hsx,←hsy]
 have hw:IntKind.i64.wrap (sx*sy)=sx*sy:=by
  rcases hs with h|h|h
  · rw[h];rfl
  · rw[h];rfl
  · have:sx*sy=0:=by rw[hsx,hsy,←Int.sign_mul,h];rfl
    rw[this];rfl
 rw[hw.symm]at hs e1
 obtain⟨q,hq⟩:∃q,q=(x*y).sign:=⟨_,rfl⟩
 have HQ:=Lib.hid hq
 have hmade:=fun(w1:World) (P:Option Addr) (l':List Nat) (c':Nat) (hP:Sz w1 P l') (ok:Ok l') (nm:Norm l') (hvP:val l'=x.natAbs*y.natAbs)=>
  made_to (IntKind.i64.wrap (sx*sy)) P l' c' w1 hP ok nm (cases3 hs fun h=>(norm_val_zero nm).1 (by rw[hvP,←Int.natAbs_mul,h];rfl)) (Nat.le_trans (len_of_val nm hvP hlen) (by decide)) (z:=x*y) (sz:=q) (by rw[hvP];exact e1) hq.symm
 have HM:=Lib.hid hmade
 clear hmade
 have H1:=Lib.hid hmul
 have H2:=Lib.hid (And.intro e1 hlen)
 clear hmul e1 hlen hsx hsy hw hs hq
 go_enter Tryz.func266,Tryz.ntmps266
 go_wp2_with fail
 have hbox:=box3 w (.int .i64 sx) (.slice A l.length c) (.int .i64 sy) (.slice B m.length d) 225
 generalize ((w.alloc (.cells #[.int .i64 sx,.slice A l.length c] 225)).alloc (.cells #[.int .i64 sy,.slice B m.length d] 225)).alloc (.cells #[.int .i64 0,.slice none 0 0] 225)=W3 at hbox ⊢
 have hA3:=hA.below hbox.bel
 have hB3:=hB.below hbox.bel
 have c00:=hbox.c00
 have c01:=hbox.c01
 have c10:=hbox.c10
 have c11:=hbox.c11
 go_region_held3 (fun w'=>w'.cell? ⟨w.heap.size,0,none⟩=some (.int .i64 sx)∧w'.cell? ⟨w.heap.size,1,none⟩=some (.slice A l.length c)∧w'.cell? ⟨w.heap.size+1,0,none⟩=some (.int .i64 sy)∧w'.cell? ⟨w.heap.size+1,1,none⟩=some (.slice B m.length d))
  (first|exact⟨hbox.c00,hbox.c01,hbox.c10,hbox.c11⟩|exact⟨hbox1.c00,hbox1.c01,hbox1.c10,hbox1.c11⟩|exact⟨hbox2.c00,hbox2.c01,hbox2.c10,hbox2.c11⟩|exact hbox2.stored _ _)
  (first
    |(go_at_call 285;refine(H1.out _ (by exact hA3) (by exact hB3)).mono ?_;rintro e w4 ⟨_,rfl,⟨P,l',c',rfl,hP,okP,nmP,hvP⟩,hb4⟩;first|have hbox1:=hbox.below (undrew hb4)|have hbox1:=hbox.below hb4)
    |(go_at_call 280;refine(HM.out _ P l' c' hP okP nmP hvP).mono ?_;rintro e w5 ⟨P5,l5,c5,rfl,hP5,ok5,nm5,hv5,hb5⟩;(first|have hbox2:=hbox1.below (undrew hb5)|have hbox2:=hbox1.below hb5);have q0:=hbox2.q0;have q1:=hbox2.q1;have f0:=hbox2.fr 0;have f1:=hbox2.fr 1))
 obtain⟨r0,r1,hb⟩:=hbox2.res (.int .i64 q) (.slice P5 l5.length c5)
 have hS:=Sz.stored hbox2 hP5 (.int .i64 q) (.slice P5 l5.length c5)
 clear hbox hbox1 hbox2 hb4 hb5
 go_wp2_with fail
 exact bodyPost_ret (v:=.agg #[.int .i64 q,.slice P5 l5.length c5]) (by simp[results,Tryz.results266,go_sem,r0,r1]) rfl ⟨_,rfl,⟨P5,l5,c5,by rw[HQ.out],hS,ok5,nm5,hv5⟩,hb⟩
end Go.Proofs.YtbijncndjlmmdaaGreatDoor
namespace Go.Proofs.YtbijncndjlmmdaaGreatDoor
set_option linter.unusedVariables false
set_option linter.unusedSimpArgs false
open Go.RowKit
theorem sgn_abs (x:Int):x.sign*(x.natAbs:Int)=x:=Int.sign_mul_natAbs x
theorem plus_eq {x y:Int} (h:x.sign=y.sign):x.sign*((x.natAbs+y.natAbs:Nat):Int)=x+y:=by
 have h1:=sgn_abs x
 have h2:=sgn_abs y
 rw[←h]at h2
 rw[Int.natCast_add,Int.mul_add,h1,h2]
theorem plus_other {x y:Int} (h:x.sign≠y.sign) (hle:y.natAbs≤x.natAbs):x.sign*((x.natAbs-y.natAbs:Nat):Int)=x+y:=by
 have h1:=sgn_abs x
 have h2:=sgn_abs y
 rw[Int.natCast_sub hle,Int.mul_sub,h1]
 rcases sign_cases x with hx|hx|hx<;>rcases sign_cases y with hy|hy|hy
 · exact absurd (hx.trans hy.symm) h
 · rw[hx];rw[hy]at h2;omega
 · subst hy;simp
 · rw[hx];rw[hy]at h2;omega
 · exact absurd (hx.trans hy.symm) h
 · subst hy;simp
 · subst hx;have:y=0:=by simp at hle;exact hle
   subst this;exact absurd rfl h
 · subst hx;have:y=0:=by simp at hle;exact hle
   subst this;exact absurd rfl h
 · subst hx hy;exact absurd rfl h
theorem made_for (s:Int) {z q:Int} {n:Nat} (hz:s*(n:Int)=z) (hq:z.sign=q) (hs:s=1∨s= -1∨n=0) (hn:n<1000000000^200) (w1:World) (P:Option Addr) (l':List Nat) (c':Nat) (hP:Sz w1 P l') (ok:Ok l') (nm:Norm l') (hvP:val l'=n):
 Calls Tryz.prog 280 #[.int .i64 s,.slice P l'.length c'] w1 (MadeRes z q w1):=
 made_to s P l' c' w1 hP ok nm (cases3 hs fun h=>(norm_val_zero nm).1 (by rw[hvP,h])) (Nat.le_trans (len_of_val nm hvP hn) (by decide)) (by rw[hvP];exact hz) hq
theorem pow_le_100 {n k:Nat} (h:n<1000000000^k) (hk:k≤100):n<1000000000^100:=Nat.lt_of_lt_of_le h (Nat.pow_le_pow_right (by decide) hk)
theorem sum_lt_200 {a b:Nat} (ha:a<1000000000^100) (hb:b<1000000000^100):a+b<1000000000^200:=by
 have:1000000000^100+1000000000^100≤1000000000^200:=by decide
 omega
theorem plus_same (x y:Int) (A B:Option Addr) (l m:List Nat) (c d:Nat) (w:World) (hA:Sz w A l) (hB:Sz w B m) (ol:Ok l) (om:Ok m) (nl:Norm l) (nm:Norm m) (hv:val l=x.natAbs) (hv':val m=y.natAbs) (hl:l.length≤100) (hm:m.length≤100) (hss:x.sign=y.sign):
 Calls Tryz.prog 261 #[.agg #[.int .i64 x.sign,.slice A l.length c],.agg #[.int .i64 y.sign,.slice B m.length d]] w (MadePost (x+y) w):=by
 have hand:=fun w1 hA1 hB1=>and_any A B l m c d w1 hA1 hB1 ol om (by omega) (by omega)
 rw[hv,hv']at hand
 have a1:=val_lt ol
 have a2:=val_lt om
 rw[hv]at a1
 rw[hv']at a2
 have hlen:=sum_lt_200 (pow_le_100 a1 hl) (pow_le_100 a2 hm)
 have hz:=plus_eq hss
 have hs:x.sign=1∨x.sign= -1∨x.natAbs+y.natAbs=0:=by
  rcases sign_cases x with h|h|h
  · exact .inl h
  · exact .inr (.inl h)
  · subst h
    have hy:y=0:=Int.eq_zero_of_sign_eq_zero hss.symm
    subst hy
    exact .inr (.inr rfl)
 obtain⟨q,hq⟩:∃q,q=(x+y).sign:=⟨_,rfl⟩
 have HM:=Lib.hid (made_for x.sign hz hq.symm hs hlen)
 have HQ:=Lib.hid hq
 have H1:=Lib.hid hand
 rw[←hss]
 obtain⟨sx,hsx⟩:∃sx,sx=x.sign:=⟨_,rfl⟩
 rw[←hsx]at HM ⊢
 clear hand a1 a2 hlen hz hs hq hsx hss hv hv'
 go_enter Tryz.func261,Tryz.ntmps261
 go_wp2_with fail
 have hbox:=box3 w (.int .i64 sx) (.slice A l.length c) (.int .i64 sx) (.slice B m.length d) 225
 generalize ((w.alloc (.cells #[.int .i64 sx,.slice A l.length c] 225)).alloc (.cells #[.int .i64 sx,.slice B m.length d] 225)).alloc (.cells #[.int .i64 0,.slice none 0 0] 225)=W3 at hbox ⊢
 have hA3:=hA.below hbox.bel
 have hB3:=hB.below hbox.bel
 have c00:=hbox.c00
 have c01:=hbox.c01
 have c10:=hbox.c10
 have c11:=hbox.c11
 go_region_held3 (fun w'=>w'.cell? ⟨w.heap.size,0,none⟩=some (.int .i64 sx)∧w'.cell? ⟨w.heap.size,1,none⟩=some (.slice A l.length c)∧w'.cell? ⟨w.heap.size+1,0,none⟩=some (.int .i64 sx)∧w'.cell? ⟨w.heap.size+1,1,none⟩=some (.slice B m.length d))
  (first|exact⟨hbox.c00,hbox.c01,hbox.c10,hbox.c11⟩|exact⟨hbox1.c00,hbox1.c01,hbox1.c10,hbox1.c11⟩|exact⟨hbox2.c00,hbox2.c01,hbox2.c10,hbox2.c11⟩|exact hbox2.stored _ _)
  (first
    |(go_at_call 281;refine(H1.out _ (by exact hA3) (by exact hB3)).mono ?_;rintro e w4 ⟨_,rfl,⟨P,l',c',rfl,hP,okP,nmP,hvP⟩,hb4⟩;first|have hbox1:=hbox.below (undrew hb4)|have hbox1:=hbox.below hb4)
    |(go_at_call 280;refine(HM.out _ P l' c' hP okP nmP hvP).mono ?_;rintro e w5 ⟨P5,l5,c5,rfl,hP5,ok5,nm5,hv5,hb5⟩;(first|have hbox2:=hbox1.below (undrew hb5)|have hbox2:=hbox1.below hb5);have q0:=hbox2.q0;have q1:=hbox2.q1;have f0:=hbox2.fr 0;have f1:=hbox2.fr 1))
 obtain⟨r0,r1,hb⟩:=hbox2.res (.int .i64 q) (.slice P5 l5.length c5)
 have hS:=Sz.stored hbox2 hP5 (.int .i64 q) (.slice P5 l5.length c5)
 clear hbox hbox1 hbox2 hb4 hb5
 go_wp2_with fail
 exact bodyPost_ret (v:=.agg #[.int .i64 q,.slice P5 l5.length c5]) (by simp[results,Tryz.results261,go_sem,r0,r1]) rfl ⟨_,rfl,⟨P5,l5,c5,by rw[HQ.out],hS,ok5,nm5,hv5⟩,hb⟩
theorem plus_ge (x y:Int) (A B:Option Addr) (l m:List Nat) (c d:Nat) (w:World) (hA:Sz w A l) (hB:Sz w B m) (ol:Ok l) (om:Ok m) (nl:Norm l) (nm:Norm m) (hv:val l=x.natAbs) (hv':val m=y.natAbs) (hl:l.length≤100) (hm:m.length≤100) (hss:x.sign≠y.sign) (hge:y.natAbs≤x.natAbs):
 Calls Tryz.prog 261 #[.agg #[.int .i64 x.sign,.slice A l.length c],.agg #[.int .i64 y.sign,.slice B m.length d]] w (MadePost (x+y) w):=by
 have hml:m.length≤l.length:=by
  rcases Nat.lt_or_ge l.length m.length with h|h
  · have:=norm_len_lt ol nm h
    omega
  · exact h
 have hless:=fun w1 hA1 hB1=>less_any A B l m c d w1 hA1 hB1 ol om (by omega) hml (by omega)
 have hcmp:=fun(w1:World) hA1 hB1=>compared_any A B l m c d w1 hA1 hB1 ol om nl nm (by unfold maxLen;omega) (by unfold maxLen;omega)
 rw[hv,hv']at hless
 have a1:=val_lt ol
 rw[hv]at a1
 have a1':=pow_le_100 a1 hl
 have hlen:=sum_lt_200 (a:=x.natAbs-y.natAbs) (b:=0) (by omega) (by omega)
 have hz:=plus_other hss hge
 have hs:x.sign=1∨x.sign= -1∨x.natAbs-y.natAbs=0:=by
  rcases sign_cases x with h|h|h
  · exact .inl h
  · exact .inr (.inl h)
  · subst h;exact .inr (.inr (by simp))
 have hcv:¬CmpVal l m<0:=by
  unfold CmpVal cmpN;split
  · omega
  · split<;>omega
 obtain⟨cv,hcv2⟩:∃cv,cv=CmpVal l m:=⟨_,rfl⟩
 rw[←hcv2]at hcv hcmp
 obtain⟨q,hq⟩:∃q,q=(x+y).sign:=⟨_,rfl⟩
 have HM:=Lib.hid (made_for x.sign hz hq.symm hs (by omega))
 have HQ:=Lib.hid hq
 have H1:=Lib.hid hless
 have HC:=Lib.hid hcmp
 obtain⟨sx,hsx⟩:∃sx,sx=x.sign:=⟨_,rfl⟩
 obtain⟨sy,hsy⟩:∃sy,sy=y.sign:=⟨_,rfl⟩
 rw[←hsx]at HM
 rw[←hsx,←hsy]at hss ⊢
 have hse:(sx==sy)=false:=beq_eq_false_iff_ne.2 hss
 clear hless hcmp a1 a1' hlen hz hs hq hsx hsy hss hv hv' hcv2 hge
 go_enter Tryz.func261,Tryz.ntmps261
 go_wp2_with fail
 have hbox:=box3 w (.int .i64 sx) (.slice A l.length c) (.int .i64 sy) (.slice B m.length d) 225
 generalize ((w.alloc (.cells #[.int .i64 sx,.slice A l.length c] 225)).alloc (.cells #[.int .i64 sy,.slice B m.length d] 225)).alloc (.cells #[.int .i64 0,.slice none 0 0] 225)=W3 at hbox ⊢
 refine(HC.out _ (hA.below hbox.bel) (hB.below hbox.bel)).mono ?_
 rintro e W4 ⟨rfl,hD⟩
 have hbox0:=hbox.below hD.below
 clear hbox hD
 have hbox:=hbox0
 clear hbox0
 have hA3:=hA.below hbox.bel
 have hB3:=hB.below hbox.bel
 have c00:=hbox.c00
 have c01:=hbox.c01
 have c10:=hbox.c10
 have c11:=hbox.c11
 go_wp2_with fail
 go_region_held3 (fun w'=>w'.cell? ⟨w.heap.size,0,none⟩=some (.int .i64 sx)∧w'.cell? ⟨w.heap.size,1,none⟩=some (.slice A l.length c)∧w'.cell? ⟨w.heap.size+1,0,none⟩=some (.int .i64 sy)∧w'.cell? ⟨w.heap.size+1,1,none⟩=some (.slice B m.length d))
  (first|exact⟨hbox.c00,hbox.c01,hbox.c10,hbox.c11⟩|exact⟨hbox1.c00,hbox1.c01,hbox1.c10,hbox1.c11⟩|exact⟨hbox2.c00,hbox2.c01,hbox2.c10,hbox2.c11⟩|exact hbox2.stored _ _)
  (first
    |(go_at_call 283;refine(H1.out _ (by exact hA3) (by exact hB3)).mono ?_;rintro e w4 ⟨_,rfl,⟨P,l',c',rfl,hP,okP,nmP,hvP⟩,hb4⟩;first|have hbox1:=hbox.below (undrew hb4)|have hbox1:=hbox.below hb4)
    |(go_at_call 280;refine(HM.out _ P l' c' hP okP nmP hvP).mono ?_;rintro e w5 ⟨P5,l5,c5,rfl,hP5,ok5,nm5,hv5,hb5⟩;(first|have hbox2:=hbox1.below (undrew hb5)|have hbox2:=hbox1.below hb5);have q0:=hbox2.q0;have q1:=hbox2.q1;have f0:=hbox2.fr 0;have f1:=hbox2.fr 1))
 obtain⟨r0,r1,hb⟩:=hbox2.res (.int .i64 q) (.slice P5 l5.length c5)
 have hS:=Sz.stored hbox2 hP5 (.int .i64 q) (.slice P5 l5.length c5)
 clear hbox hbox1 hbox2 hb4 hb5
 go_wp2_with fail
 exact bodyPost_ret (v:=.agg #[.int .i64 q,.slice P5 l5.length c5]) (by simp[results,Tryz.results261,go_sem,r0,r1]) rfl ⟨_,rfl,⟨P5,l5,c5,by rw[HQ.out],hS,ok5,nm5,hv5⟩,hb⟩
end Go.Proofs.YtbijncndjlmmdaaGreatDoor
namespace Go.Proofs.YtbijncndjlmmdaaGreatDoor
set_option linter.unusedVariables false
set_option linter.unusedSimpArgs false
open Go.RowKit
theorem set_same {w:World} {g i:Nat} {u v:Value} (h:w.cell? ⟨g,i,none⟩=some u):(w.setCell ⟨g,i,none⟩ v).cell? ⟨g,i,none⟩=some v:=World.cell?_setCell_same _ _ _ h
theorem set_else {w:World} {g i g' i':Nat} {u v:Value} (h:w.cell? ⟨g',i',none⟩=some u) (hne:g≠g'∨i≠i'):(w.setCell ⟨g,i,none⟩ v).cell? ⟨g',i',none⟩=some u:=by
 rw[World.cell?_setCell_other _ _ _ _ (by intro e;injection e with e1 e2;exact hne.elim (fun h=>h e1) (fun h=>h e2)),h]
theorem Box3.swap {w W:World} {a0 a1 b0 b1:Value} (h:Box3 w W a0 a1 b0 b1):
 Box3 w ((((W.setCell ⟨w.heap.size,0,none⟩ b0).setCell ⟨w.heap.size,1,none⟩ b1).setCell ⟨w.heap.size+1,0,none⟩ a0).setCell ⟨w.heap.size+1,1,none⟩ a1) b0 b1 a0 a1:=by
 have o:∀{g i g' i':Nat},(g≠g'∨i≠i')→(g≠g'∨i≠i'):=fun h=>h
 refine⟨?_,?_,?_,?_,?_,?_,fun i=>by simp only[World.frozen?_setCell];exact h.fa i,fun i=>by simp only[World.frozen?_setCell];exact h.fb i,fun i=>by simp only[World.frozen?_setCell];exact h.fr i,by simpa[World.setCell]using h.size,fun i n=> ?_,?_⟩
 · exact set_else (set_else (set_else (set_same h.c00) (by omega)) (by omega)) (by omega)
 · exact set_else (set_else (set_same (set_else h.c01 (by omega))) (by omega)) (by omega)
 · exact set_else (set_same (set_else (set_else h.c10 (by omega)) (by omega))) (by omega)
 · exact set_same (set_else (set_else (set_else h.c11 (by omega)) (by omega)) (by omega))
 · exact set_else (set_else (set_else (set_else h.q0 (by omega)) (by omega)) (by omega)) (by omega)
 · exact set_else (set_else (set_else (set_else h.q1 (by omega)) (by omega)) (by omega)) (by omega)
 · rw[World.cell?_setCell_other _ _ _ _ (by intro e;injection e with e1;omega),World.cell?_setCell_other _ _ _ _ (by intro e;injection e with e1;omega),World.cell?_setCell_other _ _ _ _ (by intro e;injection e with e1;omega),World.cell?_setCell_other _ _ _ _ (by intro e;injection e with e1;omega)]
   exact h.far i n
 · exact(((h.bel.setCell (Nat.le_refl _) _).setCell (Nat.le_refl _) _).setCell (by show w.heap.size≤w.heap.size+1;omega) _).setCell (by show w.heap.size≤w.heap.size+1;omega) _
theorem plus_lt (x y:Int) (A B:Option Addr) (l m:List Nat) (c d:Nat) (w:World) (hA:Sz w A l) (hB:Sz w B m) (ol:Ok l) (om:Ok m) (nl:Norm l) (nm:Norm m) (hv:val l=x.natAbs) (hv':val m=y.natAbs) (hl:l.length≤100) (hm:m.length≤100) (hss:x.sign≠y.sign) (hge:x.natAbs<y.natAbs):
 Calls Tryz.prog 261 #[.agg #[.int .i64 x.sign,.slice A l.length c],.agg #[.int .i64 y.sign,.slice B m.length d]] w (MadePost (x+y) w):=by
 have hml:l.length≤m.length:=by
  rcases Nat.lt_or_ge m.length l.length with h|h
  · have:=norm_len_lt om nl h
    omega
  · exact h
 have hless:=fun w1 hA1 hB1=>less_any B A m l d c w1 hB1 hA1 om ol (by omega) hml (by omega)
 have hcmp:=fun(w1:World) hA1 hB1=>compared_any A B l m c d w1 hA1 hB1 ol om nl nm (by unfold maxLen;omega) (by unfold maxLen;omega)
 rw[hv,hv']at hless
 have a1:=val_lt om
 rw[hv']at a1
 have a1':=pow_le_100 a1 hm
 have hlen:=sum_lt_200 (a:=y.natAbs-x.natAbs) (b:=0) (by omega) (by omega)
 have hz:=plus_other (Ne.symm hss) (Nat.le_of_lt hge)
 rw[Int.add_comm y x]at hz
 have hs:y.sign=1∨y.sign= -1∨y.natAbs-x.natAbs=0:=by
  rcases sign_cases y with h|h|h
  · exact .inl h
  · exact .inr (.inl h)
  · subst h;exact .inr (.inr (by simp))
 have hcv:CmpVal l m<0:=by
  rw[CmpVal,cmpN_lt (by omega)];decide
 obtain⟨cv,hcv2⟩:∃cv,cv=CmpVal l m:=⟨_,rfl⟩
 rw[←hcv2]at hcv hcmp
 obtain⟨q,hq⟩:∃q,q=(x+y).sign:=⟨_,rfl⟩
 have HM:=Lib.hid (made_for y.sign hz hq.symm hs (by omega))
 have HQ:=Lib.hid hq
 have H1:=Lib.hid hless
 have HC:=Lib.hid hcmp
 obtain⟨sx,hsx⟩:∃sx,sx=x.sign:=⟨_,rfl⟩
 obtain⟨sy,hsy⟩:∃sy,sy=y.sign:=⟨_,rfl⟩
 rw[←hsy]at HM
 rw[←hsx,←hsy]at hss ⊢
 have hse:(sx==sy)=false:=beq_eq_false_iff_ne.2 hss
 clear hless hcmp a1 a1' hlen hz hs hq hsx hsy hss hv hv' hcv2 hge
 go_enter Tryz.func261,Tryz.ntmps261
 go_wp2_with fail
 have hbox:=box3 w (.int .i64 sx) (.slice A l.length c) (.int .i64 sy) (.slice B m.length d) 225
 generalize ((w.alloc (.cells #[.int .i64 sx,.slice A l.length c] 225)).alloc (.cells #[.int .i64 sy,.slice B m.length d] 225)).alloc (.cells #[.int .i64 0,.slice none 0 0] 225)=W3 at hbox ⊢
 refine(HC.out _ (hA.below hbox.bel) (hB.below hbox.bel)).mono ?_
 rintro e W4 ⟨rfl,hD⟩
 have hbox0:=hbox.below hD.below
 clear hbox hD
 have hbox:=hbox0
 clear hbox0
 have c00:=hbox.c00
 have c01:=hbox.c01
 have c10:=hbox.c10
 have c11:=hbox.c11
 have fa0:=hbox.fa 0
 have fa1:=hbox.fa 1
 have fb0:=hbox.fb 0
 have fb1:=hbox.fb 1
 go_wp2_with fail
 have hbox0:=hbox.swap
 generalize ((((W4.setCell ⟨w.heap.size,0,none⟩ (.int .i64 sy)).setCell ⟨w.heap.size,1,none⟩ (.slice B m.length d)).setCell ⟨w.heap.size+1,0,none⟩ (.int .i64 sx)).setCell ⟨w.heap.size+1,1,none⟩ (.slice A l.length c))=W5 at hbox0 ⊢
 clear hbox c00 c01 c10 c11 fa0 fa1 fb0 fb1
 have hbox:=hbox0
 clear hbox0
 have hA3:=hA.below hbox.bel
 have hB3:=hB.below hbox.bel
 have c00:=hbox.c00
 have c01:=hbox.c01
 have c10:=hbox.c10
 have c11:=hbox.c11
 go_region_held3 (fun w'=>w'.cell? ⟨w.heap.size,0,none⟩=some (.int .i64 sy)∧w'.cell? ⟨w.heap.size,1,none⟩=some (.slice B m.length d)∧w'.cell? ⟨w.heap.size+1,0,none⟩=some (.int .i64 sx)∧w'.cell? ⟨w.heap.size+1,1,none⟩=some (.slice A l.length c))
  (first|exact⟨hbox.c00,hbox.c01,hbox.c10,hbox.c11⟩|exact⟨hbox1.c00,hbox1.c01,hbox1.c10,hbox1.c11⟩|exact⟨hbox2.c00,hbox2.c01,hbox2.c10,hbox2.c11⟩|exact hbox2.stored _ _)
  (first
    |(go_at_call 283;refine(H1.out _ (by exact hA3) (by exact hB3)).mono ?_;rintro e w4 ⟨_,rfl,⟨P,l',c',rfl,hP,okP,nmP,hvP⟩,hb4⟩;first|have hbox1:=hbox.below (undrew hb4)|have hbox1:=hbox.below hb4)
    |(go_at_call 280;refine(HM.out _ P l' c' hP okP nmP hvP).mono ?_;rintro e w5 ⟨P5,l5,c5,rfl,hP5,ok5,nm5,hv5,hb5⟩;(first|have hbox2:=hbox1.below (undrew hb5)|have hbox2:=hbox1.below hb5);have q0:=hbox2.q0;have q1:=hbox2.q1;have f0:=hbox2.fr 0;have f1:=hbox2.fr 1))
 obtain⟨r0,r1,hb⟩:=hbox2.res (.int .i64 q) (.slice P5 l5.length c5)
 have hS:=Sz.stored hbox2 hP5 (.int .i64 q) (.slice P5 l5.length c5)
 clear hbox hbox1 hbox2 hb4 hb5
 go_wp2_with fail
 exact bodyPost_ret (v:=.agg #[.int .i64 q,.slice P5 l5.length c5]) (by simp[results,Tryz.results261,go_sem,r0,r1]) rfl ⟨_,rfl,⟨P5,l5,c5,by rw[HQ.out],hS,ok5,nm5,hv5⟩,hb⟩
theorem plus_any (x y:Int) (A B:Option Addr) (l m:List Nat) (c d:Nat) (w:World) (hA:Sz w A l) (hB:Sz w B m) (ol:Ok l) (om:Ok m) (nl:Norm l) (nm:Norm m) (hv:val l=x.natAbs) (hv':val m=y.natAbs) (hl:l.length≤100) (hm:m.length≤100):
 Calls Tryz.prog 261 #[.agg #[.int .i64 x.sign,.slice A l.length c],.agg #[.int .i64 y.sign,.slice B m.length d]] w (MadePost (x+y) w):=by
 by_cases hss:x.sign=y.sign
 · exact plus_same x y A B l m c d w hA hB ol om nl nm hv hv' hl hm hss
 · by_cases hge:y.natAbs≤x.natAbs
   · exact plus_ge x y A B l m c d w hA hB ol om nl nm hv hv' hl hm hss hge
   · exact plus_lt x y A B l m c d w hA hB ol om nl nm hv hv' hl hm hss (by omega)
end Go.Proofs.YtbijncndjlmmdaaGreatDoor
namespace Go.Proofs.YtbijncndjlmmdaaGreatDoor
set_option linter.unusedVariables false
set_option linter.unusedSimpArgs false
open Go.RowKit
def fq (x y:Int):Int:=if 0<y then x/y else(-x)/(-y)
def fr (x y:Int):Int:=x-y*fq x y
theorem fr_bd {x y:Int} (hy:y≠0):(0<y→0≤fr x y∧fr x y<y)∧(y<0→fr x y≤0∧y<fr x y):=by
 unfold fr fq
 constructor
 · intro h
   rw[if_pos h]
   have h1:=Int.emod_nonneg x hy
   have h2:=Int.emod_lt_of_pos x h
   have h3:=Int.mul_ediv_add_emod x y
   omega
 · intro h
   rw[if_neg (by omega)]
   have h1:=Int.emod_nonneg (-x) (show-y≠0 by omega)
   have h2:=Int.emod_lt_of_pos (-x) (show 0< -y by omega)
   have h3:=Int.mul_ediv_add_emod (-x) (-y)
   rw[Int.neg_mul]at h3
   omega
theorem fq_unique {x y q r:Int} (hy:y≠0) (h:x=y*q+r) (hp:0<y→0≤r∧r<y) (hn:y<0→r≤0∧y<r):fq x y=q∧fr x y=r:=by
 have e:fq x y=q:=by
  unfold fq
  rcases Int.lt_trichotomy y 0 with h0|h0|h0
  · rw[if_neg (by omega)]
    obtain⟨a,b⟩:=hn h0
    have:=(Int.ediv_emod_unique (a:= -x) (b:= -y) (r:= -r) (q:=q) (by omega)).2 ⟨by rw[h,Int.neg_mul];omega,by omega,by omega⟩
    exact this.1
  · exact absurd h0 hy
  · rw[if_pos h0]
    obtain⟨a,b⟩:=hp h0
    exact((Int.ediv_emod_unique (a:=x) (b:=y) (r:=r) (q:=q) h0).2 ⟨by omega,a,b⟩).1
 exact⟨e,by unfold fr;rw[e];omega⟩
theorem div_parts (x y:Int) (hy:y≠0):x=y*(x.sign*y.sign*((x.natAbs/y.natAbs:Nat):Int))+x.sign*((x.natAbs%y.natAbs:Nat):Int):=by
 have h1:=sgn_abs x
 have h2:=sgn_abs y
 have h3:=Nat.div_add_mod x.natAbs y.natAbs
 have hss:y.sign*y.sign=1:=by
  rcases sign_cases y with h|h|h
  · rw[h];rfl
  · rw[h];rfl
  · exact absurd h hy
 have e:y*(x.sign*y.sign*((x.natAbs/y.natAbs:Nat):Int))=x.sign*((y.natAbs*(x.natAbs/y.natAbs):Nat):Int):=by
  rw[←h2,Int.natCast_mul]
  rw[h2]
  have:y.sign*(y.natAbs:Int)*(x.sign*y.sign*((x.natAbs/y.natAbs:Nat):Int))=(y.sign*y.sign)*(x.sign*((y.natAbs:Int)*((x.natAbs/y.natAbs:Nat):Int))):=by ac_rfl
  rw[h2]at this
  rw[this,hss,Int.one_mul]
 rw[e,←Int.mul_add,←Int.natCast_add,h3,h1]
theorem mod_lt_abs (x y:Int) (hy:y≠0):x.natAbs%y.natAbs<y.natAbs:=Nat.mod_lt _ (by omega)
theorem div_exact {x y:Int} (hy:y≠0) (h:x.sign*((x.natAbs%y.natAbs:Nat):Int)=0∨(x.sign*((x.natAbs%y.natAbs:Nat):Int)).sign=y.sign):
 fq x y=x.sign*y.sign*((x.natAbs/y.natAbs:Nat):Int)∧fr x y=x.sign*((x.natAbs%y.natAbs:Nat):Int):=by
 have h1:=div_parts x y hy
 have h2:=mod_lt_abs x y hy
 generalize x.natAbs%y.natAbs=r at h h1 h2 ⊢
 refine fq_unique hy h1 (fun hp=> ?_) (fun hn=> ?_)
 · rcases sign_cases x with hx|hx|hx
   · rw[hx]at h ⊢;omega
   · rw[hx]at h ⊢
     rcases h with h|h
     · omega
     · rw[Int.sign_eq_one_of_pos hp]at h
       have:=Int.pos_of_sign_eq_one h
       omega
   · subst hx;simp;omega
 · rcases sign_cases x with hx|hx|hx
   · rw[hx]at h ⊢
     rcases h with h|h
     · omega
     · rw[Int.sign_eq_neg_one_of_neg hn]at h
       have:=Int.neg_of_sign_eq_neg_one h
       omega
   · rw[hx]at h ⊢;omega
   · subst hx;simp;omega
theorem div_less {x y:Int} (hy:y≠0) (h0:x.sign*((x.natAbs%y.natAbs:Nat):Int)≠0) (h:(x.sign*((x.natAbs%y.natAbs:Nat):Int)).sign≠y.sign):
 fq x y=x.sign*y.sign*((x.natAbs/y.natAbs:Nat):Int)+ -1∧fr x y=x.sign*((x.natAbs%y.natAbs:Nat):Int)+y:=by
 have h1:=div_parts x y hy
 have h2:=mod_lt_abs x y hy
 generalize x.sign*y.sign*((x.natAbs/y.natAbs:Nat):Int)=q at h1 ⊢
 generalize x.natAbs%y.natAbs=r at h h0 h1 h2 ⊢
 refine fq_unique hy (by rw[Int.mul_add];omega) (fun hp=> ?_) (fun hn=> ?_)
 · rcases sign_cases x with hx|hx|hx
   · exfalso
     rw[hx]at h h0
     exact h (by rw[Int.sign_eq_one_of_pos hp];exact Int.sign_eq_one_of_pos (by omega))
   · rw[hx]at h0 ⊢;omega
   · subst hx;simp at h0
 · rcases sign_cases x with hx|hx|hx
   · rw[hx]at h0 ⊢;omega
   · exfalso
     rw[hx]at h h0
     exact h (by rw[Int.sign_eq_neg_one_of_neg hn];exact Int.sign_eq_neg_one_of_neg (by omega))
   · subst hx;simp at h0
end Go.Proofs.YtbijncndjlmmdaaGreatDoor
namespace Go.Proofs.YtbijncndjlmmdaaGreatDoor
set_option linter.unusedVariables false
set_option linter.unusedSimpArgs false
open Go.RowKit
def Nb (W:World) (g:Nat) (s:Int) (P:Option Addr) (n c:Nat):Prop:=W.heap[g]?=some (.cells #[.int .i64 s,.slice P n c] 225 (0,0))
section
variable {W W':World} {g:Nat} {s:Int} {P:Option Addr} {n c:Nat}
theorem Nb.lt (h:Nb W g s P n c):g<W.heap.size:=(Array.getElem?_eq_some_iff.1 h).1
theorem Nb.c0 (h:Nb W g s P n c):W.cell? ⟨g,0,none⟩=some (.int .i64 s):=by rw[cell_of_row _ _ 0 _ _ _ h];rfl
theorem Nb.c1 (h:Nb W g s P n c):W.cell? ⟨g,1,none⟩=some (.slice P n c):=by rw[cell_of_row _ _ 1 _ _ _ h];rfl
theorem Nb.f (h:Nb W g s P n c) (i:Nat):W.frozen? ⟨g,i,none⟩=false:=frozen_of_row _ _ i _ _ h
theorem Nb.far (h:Nb W g s P n c) (i:Nat) (k:Int):W.cell? ⟨g,i,none⟩≠some (.int .u32 k):=by
 rw[cell_of_row _ _ i _ _ _ h]
 rcases i with _|_|i<;>simp
theorem Nb.below (h:Nb W g s P n c) {B:Nat} (hb:Below B W W') (hg:g<B):Nb W' g s P n c:=(hb.block g hg).trans h
theorem Nb.only (h:Nb W g s P n c) {g':Nat} (hb:Only g' W W') (hg:g≠g'):Nb W' g s P n c:=(hb.block g h.lt (by intro e;injection e with e;exact hg e)).trans h
theorem Nb.alloc (h:Nb W g s P n c) (o:Obj):Nb (W.alloc o) g s P n c:=(Below.heap_alloc W o g h.lt).trans h
theorem Nb.new (W:World) (s:Int) (P:Option Addr) (n c:Nat):Nb (W.alloc (.cells #[.int .i64 s,.slice P n c] 225)) W.heap.size s P n c:=heap_alloc_new W _
theorem Nb.set (h:Nb W g s P n c) (s':Int) (P':Option Addr) (n' c':Nat):Nb ((W.setCell ⟨g,0,none⟩ (.int .i64 s')).setCell ⟨g,1,none⟩ (.slice P' n' c')) g s' P' n' c':=by
 unfold Nb at*
 simp[World.setCell,Array.getElem?_modify,h]
end
theorem Only.two (g:Nat) (W:World) (u v:Value):Only g W ((W.setCell ⟨g,0,none⟩ u).setCell ⟨g,1,none⟩ v):=((Only.refl g W).setCell 0 u).setCell 1 v
structure B4 (w W:World) (s0:Int) (P0:Option Addr) (n0 c0:Nat) (s1:Int) (P1:Option Addr) (n1 c1:Nat) (s2:Int) (P2:Option Addr) (n2 c2:Nat) (s3:Int) (P3:Option Addr) (n3 c3:Nat):Prop where
 a:Nb W w.heap.size s0 P0 n0 c0
 b:Nb W (w.heap.size+1) s1 P1 n1 c1
 r:Nb W (w.heap.size+1+1) s2 P2 n2 c2
 t:Nb W (w.heap.size+1+1+1) s3 P3 n3 c3
 bel:Below w.heap.size w W
section
variable {w W W':World} {s0 s1 s2 s3:Int} {P0 P1 P2 P3:Option Addr} {n0 n1 n2 n3 c0 c1 c2 c3:Nat}
theorem b4_new (w:World) (s0:Int) (P0:Option Addr) (n0 c0:Nat) (s1:Int) (P1:Option Addr) (n1 c1:Nat):
 B4 w ((((w.alloc (.cells #[.int .i64 s0,.slice P0 n0 c0] 225)).alloc (.cells #[.int .i64 s1,.slice P1 n1 c1] 225)).alloc (.cells #[.int .i64 0,.slice none 0 0] 225)).alloc (.cells #[.int .i64 0,.slice none 0 0] 225))
  s0 P0 n0 c0 s1 P1 n1 c1 0 none 0 0 0 none 0 0:=by
 have h1:=Nb.new w s0 P0 n0 c0
 have h2:=Nb.new (w.alloc (.cells #[.int .i64 s0,.slice P0 n0 c0] 225)) s1 P1 n1 c1
 have h3:=Nb.new ((w.alloc (.cells #[.int .i64 s0,.slice P0 n0 c0] 225)).alloc (.cells #[.int .i64 s1,.slice P1 n1 c1] 225)) 0 none 0 0
 have h4:=Nb.new (((w.alloc (.cells #[.int .i64 s0,.slice P0 n0 c0] 225)).alloc (.cells #[.int .i64 s1,.slice P1 n1 c1] 225)).alloc (.cells #[.int .i64 0,.slice none 0 0] 225)) 0 none 0 0
 rw[show(w.alloc (.cells #[.int .i64 s0,.slice P0 n0 c0] 225)).heap.size=w.heap.size+1 by simp]at h2
 rw[show((w.alloc (.cells #[.int .i64 s0,.slice P0 n0 c0] 225)).alloc (.cells #[.int .i64 s1,.slice P1 n1 c1] 225)).heap.size=w.heap.size+1+1 by simp]at h3
 rw[show(((w.alloc (.cells #[.int .i64 s0,.slice P0 n0 c0] 225)).alloc (.cells #[.int .i64 s1,.slice P1 n1 c1] 225)).alloc (.cells #[.int .i64 0,.slice none 0 0] 225)).heap.size=w.heap.size+1+1+1 by simp]at h4
 exact⟨((h1.alloc _).alloc _).alloc _,(h2.alloc _).alloc _,h3.alloc _,h4,(((Below.refl _ _).alloc (Nat.le_refl _) _).alloc (by simp) _ |>.alloc (by simp;omega) _).alloc (by simp;omega) _⟩
theorem B4.below (h:B4 w W s0 P0 n0 c0 s1 P1 n1 c1 s2 P2 n2 c2 s3 P3 n3 c3) (hb:Below W.heap.size W W'):B4 w W' s0 P0 n0 c0 s1 P1 n1 c1 s2 P2 n2 c2 s3 P3 n3 c3:=
 ⟨h.a.below hb h.a.lt,h.b.below hb h.b.lt,h.r.below hb h.r.lt,h.t.below hb h.t.lt,h.bel.trans (hb.mono (by have:=h.a.lt;omega))⟩
theorem B4.set_r (h:B4 w W s0 P0 n0 c0 s1 P1 n1 c1 s2 P2 n2 c2 s3 P3 n3 c3) (s:Int) (P:Option Addr) (n c:Nat):
 B4 w ((W.setCell ⟨w.heap.size+1+1,0,none⟩ (.int .i64 s)).setCell ⟨w.heap.size+1+1,1,none⟩ (.slice P n c)) s0 P0 n0 c0 s1 P1 n1 c1 s P n c s3 P3 n3 c3:=
 ⟨h.a.only (Only.two _ _ _ _) (by omega),h.b.only (Only.two _ _ _ _) (by omega),h.r.set _ _ _ _,h.t.only (Only.two _ _ _ _) (by omega),h.bel.trans ((Only.two _ _ _ _).to_below (by omega) (by have:=h.a.lt;omega))⟩
theorem B4.set_t (h:B4 w W s0 P0 n0 c0 s1 P1 n1 c1 s2 P2 n2 c2 s3 P3 n3 c3) (s:Int) (P:Option Addr) (n c:Nat):
 B4 w ((W.setCell ⟨w.heap.size+1+1+1,0,none⟩ (.int .i64 s)).setCell ⟨w.heap.size+1+1+1,1,none⟩ (.slice P n c)) s0 P0 n0 c0 s1 P1 n1 c1 s2 P2 n2 c2 s P n c:=
 ⟨h.a.only (Only.two _ _ _ _) (by omega),h.b.only (Only.two _ _ _ _) (by omega),h.r.only (Only.two _ _ _ _) (by omega),h.t.set _ _ _ _,h.bel.trans ((Only.two _ _ _ _).to_below (by omega) (by have:=h.a.lt;omega))⟩
end
end Go.Proofs.YtbijncndjlmmdaaGreatDoor

import Derived.Test.YtbijncndjlmmdaaGreatDoorMbh
import Derived.Test.YtbijncndjlmmdaaGreatDoorMat
import Derived.Test.YtbijncndjlmmdaaGreatDoorMbe
import Derived.Shelf.Abstract
import Derived.Shelf.RegionOpen
import Derived.WalkKit
import Derived.TacticsInMore
import Derived.LoopNIn
import Derived.LoopIn
import Derived.Stop.RegionWithIn
import Derived.Lib.Hide
set_option maxHeartbeats 6400000
set_option maxRecDepth 100000
namespace Go.Proofs.YtbijncndjlmmdaaGreatDoor
set_option linter.unusedVariables false
set_option linter.unusedSimpArgs false
theorem iT_len (q:Ar):(iT q).length=nI q.1:=by simp[iT]
theorem iT_get {q:Ar} {i:Nat} (h:i<nI q.1) (h':i<(iT q).length):(iT q)[i]=itA q.1 q.2 i:=by simp[iT]
theorem iT_mem {q x:Ar}:x∈iT q↔∃i,i<nI q.1∧x=itA q.1 q.2 i:=by
 unfold iT
 rw[List.mem_map]
 constructor
 · rintro⟨i,hi,rfl⟩;exact⟨i,List.mem_range.1 hi,rfl⟩
 · rintro⟨i,hi,rfl⟩;exact⟨i,List.mem_range.2 hi,rfl⟩
theorem iT_cons {q:Ar} (h:0<nI q.1):iT q=itA q.1 q.2 0::(iT q).tail:=by
 obtain⟨n,hn⟩:∃n,nI q.1=n+1:=⟨nI q.1-1,by omega⟩
 unfold iT
 rw[hn,List.range_succ_eq_map]
 rfl
theorem itA_cut {l xs:List Int} (h:l≠[]) (i:Nat):itA l xs i=(l.tail,(xs.drop (i*kI l)).take (kI l)):=by
 unfold itA kI
 rw[if_neg h,prD_is]
theorem itA_nil (xs:List Int) (i:Nat):itA [] xs i=([],xs):=rfl
theorem may_tail {l:List Int} (h:MayL l) (h0:0<nI l):MayL l.tail:=by
 cases l with
 |nil=>exact h
 |cons x r=>
  have hx:0<x:=by have:0<x.toNat:=h0;omega
  have nn:∀j,j<r.length→0≤r.getD j 0:=fun j hj=>h.nn (j+1) (by simpa using hj)
  refine⟨by have:=h.len;simp at this;show r.length≤3;omega,nn,fun j hj=>h.le (j+1) (by simpa using hj),?_⟩
  have h1:x*pr r≤4096:=h.pr
  have h2:1*pr r≤x*pr r:=Int.mul_le_mul_of_nonneg_right (by omega) (pr_nonneg nn)
  show pr r≤4096
  omega
theorem cut_le {n k m i:Nat} (h:m=n*k) (hi:i<n):i*k+k≤m:=by
 rw[h,←Nat.succ_mul]
 exact Nat.mul_le_mul_right k hi
theorem itA_rok {q:Ar} (h:Rok (some q)) {i:Nat} (hi:q.1=[]∨i<nI q.1):Rok (some (itA q.1 q.2 i)):=by
 by_cases hn:q.1=[]
 · unfold itA
   rw[if_pos hn]
   exact h
 · have hi:i<nI q.1:=hi.resolve_left hn
   have hf:Fits q.1 q.2:=⟨szE_may.1 h.1,h.2.1⟩
   have hm:=may_tail hf.1 (by omega)
   rw[itA_cut hn]
   refine⟨szE_may.2 hm,?_,fun x hx=>h.2.2 x (List.mem_of_mem_drop (List.mem_of_mem_take hx))⟩
   have hc:=cut_le (hf.cut hn) hi
   show(((q.2.drop (i*kI q.1)).take (kI q.1)).length:Int)=pr q.1.tail
   rw[List.length_take,List.length_drop,Nat.min_eq_left (by omega)]
   show((pr q.1.tail).toNat:Int)=_
   exact Int.toNat_of_nonneg (pr_nonneg hm.nn)
theorem rok_len {x:Ar} (h:Rok (some x)):x.2.length=(pr x.1).toNat∧0≤pr x.1:=by
 have:=(may_pr h.1).1
 have:=h.2.1
 exact⟨by omega,by omega⟩
theorem flat_len {k:Nat}:∀{l:List Ar},(∀x∈l,x.2.length=k)→(l.flatMap (·.2)).length=l.length*k
 |[],_=>by simp
 |x::r,h=>by
  rw[List.flatMap_cons,List.length_append,flat_len fun y hy=>h y (List.mem_cons_of_mem _ hy),h x (List.mem_cons_self ..),List.length_cons,Nat.succ_mul,Nat.add_comm]
theorem jo_yes {l:List Ar} {s:List Int} (hl:l≠[]) (hs:∀x∈l,x.1=s) (hz:szE ((l.length:Int)::s)=0):joA l=(some ((l.length:Int)::s,l.flatMap (·.2)),0):=by
 cases l with
 |nil=>exact absurd rfl hl
 |cons q r=>
  have hq:q.1=s:=hs q (List.mem_cons_self ..)
  unfold joA
  have ha:(q::r).all (fun x=>decide (x.1=q.1))=true:=List.all_eq_true.2 fun x hx=>decide_eq_true ((hs x hx).trans hq.symm)
  dsimp only
  rw[ha,if_neg (by simp),hq,if_neg (by rw[hz];simp)]
theorem jo_size {l:List Ar} {s:List Int} (hl:l≠[]) (hs:∀x∈l,x.1=s) (hz:szE ((l.length:Int)::s)≠0):joA l=(none,szE ((l.length:Int)::s)):=by
 cases l with
 |nil=>exact absurd rfl hl
 |cons q r=>
  have hq:q.1=s:=hs q (List.mem_cons_self ..)
  unfold joA
  have ha:(q::r).all (fun x=>decide (x.1=q.1))=true:=List.all_eq_true.2 fun x hx=>decide_eq_true ((hs x hx).trans hq.symm)
  dsimp only
  rw[ha,if_neg (by simp),hq,if_pos hz]
theorem jo_unlike {q:Ar} {r:List Ar} {x:Ar} (hx:x∈r) (hs:x.1≠q.1):joA (q::r)=(none,4):=by
 unfold joA
 have ha:(q::r).all (fun x=>decide (x.1=q.1))=false:=by
  rw[Bool.eq_false_iff]
  intro h
  exact hs (of_decide_eq_true (List.all_eq_true.1 h x (List.mem_cons_of_mem _ hx)))
 dsimp only
 rw[if_pos ha]
theorem jo_cases (l:List Ar):(l=[]∧joA l=(none,5))∨(l≠[]∧joA l=(none,4))∨(∃s,l≠[]∧(∀x∈l,x.1=s)∧szE ((l.length:Int)::s)≠0∧joA l=(none,szE ((l.length:Int)::s)))∨
 (∃s,l≠[]∧(∀x∈l,x.1=s)∧szE ((l.length:Int)::s)=0∧joA l=(some ((l.length:Int)::s,l.flatMap (·.2)),0)):=by
 cases l with
 |nil=>exact .inl ⟨rfl,rfl⟩
 |cons q r=>
  by_cases h:∃x∈r,x.1≠q.1
  · obtain⟨x,hx,hs⟩:=h
    exact .inr (.inl ⟨by simp,jo_unlike hx hs⟩)
  · have hs:∀x∈q::r,x.1=q.1:=by
     intro x hx
     rcases List.mem_cons.1 hx with rfl|hx
     · rfl
     · exact Classical.byContradiction fun e=>h ⟨x,hx,e⟩
    by_cases hz:szE (((q::r).length:Int)::q.1)=0
    · exact .inr (.inr (.inr ⟨q.1,by simp,hs,hz,jo_yes (by simp) hs hz⟩))
    · exact .inr (.inr (.inl ⟨q.1,by simp,hs,hz,jo_size (by simp) hs hz⟩))
theorem jo_rok {l:List Ar} (h:∀x∈l,Rok (some x)):Rok (joA l).1:=by
 rcases jo_cases l with⟨_,e⟩|⟨_,e⟩|⟨s,_,_,_,e⟩|⟨s,hl,hs,hz,e⟩
 · rw[e];exact trivial
 · rw[e];exact trivial
 · rw[e];exact trivial
 · rw[e]
   have hk:∀x∈l,x.2.length=(pr s).toNat:=fun x hx=>by have:=(rok_len (h x hx)).1;rwa [hs x hx]at this
   refine⟨hz,?_,fun y hy=> ?_⟩
   · show((l.flatMap (·.2)).length:Int)=(l.length:Int)*pr s
     have hp:0≤pr s:=by
      cases l with
      |nil=>exact absurd rfl hl
      |cons q r=>have:=(rok_len (h q (List.mem_cons_self ..))).2;rwa [hs q (List.mem_cons_self ..)]at this
     rw[flat_len hk,Int.natCast_mul,Int.toNat_of_nonneg hp]
   · obtain⟨x,hx,hy⟩:=List.mem_flatMap.1 hy
     exact(h x hx).2.2 y hy
theorem jo_told (l:List Ar):Told (joA l):=by
 rcases jo_cases l with⟨_,e⟩|⟨_,e⟩|⟨s,_,_,hz,e⟩|⟨s,hl,hs,hz,e⟩
 · rw[e];exact .no ⟨by decide,by decide⟩
 · rw[e];exact .no ⟨by decide,by decide⟩
 · rw[e];exact .no (szE_err _ hz)
 · rw[e];exact .yes _
theorem jo_back {q:Ar} (h:Rok (some q)) (hne:q.1≠[]) (h0:0<nI q.1):joA (iT q)=(some q,0):=by
 have hf:Fits q.1 q.2:=⟨szE_may.1 h.1,h.2.1⟩
 have hsh:∀x∈iT q,x.1=q.1.tail:=fun x hx=>by obtain⟨i,_,rfl⟩:=iT_mem.1 hx;rw[itA_cut hne]
 have hhead:(((iT q).length:Nat):Int)::q.1.tail=q.1:=by
  rw[iT_len,nI_head hne hf.1];exact head_tail hne
 rw[jo_yes (s:=q.1.tail) (by rw[iT_cons h0];simp) hsh (by rw[hhead];exact h.1),hhead]
 congr 2
 refine Prod.ext rfl ?_
 have e1:(iT q).flatMap (·.2)=its q.2 (kI q.1) (List.range (nI q.1)):=by
  have:∀m:List Nat,(m.map fun i=>itA q.1 q.2 i).flatMap (·.2)=its q.2 (kI q.1) m:=by
   intro m
   induction m with
   |nil=>rfl
   |cons i r ih=>
    rw[List.map_cons,List.flatMap_cons,ih,itA_cut hne]
    rfl
  exact this _
 show(iT q).flatMap (·.2)=q.2
 rw[e1,its_all (hf.cut hne)]
theorem run_rok {α:Type} {f:α→Option Ar×Int} {l:List α} (hf:∀x∈l,Rok (f x).1) {ys:List Ar} {e:Int} (h:runL f l=(some ys,e)):∀y∈ys,Rok (some y):=by
 obtain⟨h1,h2⟩:=runL_some h
 intro y hy
 obtain⟨j,hj,rfl⟩:=List.getElem_of_mem hy
 obtain⟨c,hc⟩:=h2 j (by omega) hj
 have:=hf _ (List.getElem_mem (show j<l.length by omega))
 rwa [hc]at this
theorem run_told {α:Type} {f:α→Option Ar×Int} {l:List α} (hf:∀x∈l,Told (f x)):(∃ys,runL f l=(some ys,0))∨(∃k,runL f l=(none,k)∧0<k∧k≤8):=by
 obtain⟨o,k,ho⟩:∃o k,runL f l=(o,k):=⟨_,_,rfl⟩
 cases o with
 |some ys=>exact .inl ⟨ys,by rw[ho,runL_zero ho]⟩
 |none=>
  obtain⟨x,hx,e⟩:=runL_no ho
  rcases hf x hx with⟨q,h⟩|⟨k',h,hk⟩
  · rw[h]at e;cases e
  · rw[h]at e;cases e;exact .inr ⟨_,ho,hk⟩
theorem joR_told {r:Option (List Ar)×Int} (h:(∃ys,r=(some ys,0))∨(∃k,r=(none,k)∧0<k∧k≤8)):Told (joR r):=by
 rcases h with⟨ys,rfl⟩|⟨k,rfl,hk⟩
 · exact jo_told ys
 · exact .no hk
end Go.Proofs.YtbijncndjlmmdaaGreatDoor
namespace Go.Proofs.YtbijncndjlmmdaaGreatDoor
set_option linter.unusedVariables false
set_option linter.unusedSimpArgs false
open Go.RowKit Go.Shelf
def tlB (a:Option Addr) (c:Nat):Option Addr:=if c=1 then a else a.map (·.add 1)
theorem run_tlB {T e:TypeId} (ht:Tryz.prog.underlying T=some (.slice e)) (hs:∀w,(Go.sizeOf e).run Tryz.prog w=.ok 1 w) (a:Option Addr) (n c:Nat) (h1:1≤n) (h2:n≤c) (w:World):
 (Instr.slice T (.slice a n c) (some (.int .i64 1)) none none).run Tryz.prog w=.ok (.slice (tlB a c) (n-1) (c-1)) w:=by
 have h3:(1:Int)≤(n:Int):=by omega
 have h4:(n:Int)≤(c:Int):=by omega
 have h5:1≤c:=by omega
 by_cases hc:c=1
 · subst hc
   obtain rfl:n=1:=by omega
   simp[Instr.slice,Instr.sliceBounds,Instr.sliceBound,run_underlying ht,hs,asIntOf,tlB]
 · simp[Instr.slice,Instr.sliceBounds,Instr.sliceBound,run_underlying ht,hs,asIntOf,h1,h2,h3,h4,h5,hc,tlB]
theorem Sl.tlB {W:World} {a:Option Addr} {n c:Nat} {l:List Int} (h:Sl W a n l) (h1:1≤n) (h2:n≤c):Sl W (tlB a c) (n-1) l.tail:=by
 have k:=h.cut1 h1
 by_cases e:n=1
 · exact⟨k.1,fun h0=>by omega⟩
 · have e2:cutA a 1 n=Go.Proofs.YtbijncndjlmmdaaGreatDoor.tlB a c:=by
    unfold cutA Go.Proofs.YtbijncndjlmmdaaGreatDoor.tlB
    rw[if_neg (by omega),if_neg (by omega)]
   rw[←e2];exact k
theorem own_drew {w:World} {B n:Nat} {e:TypeId} {v:Value} {xs:List Value} (h:w.ownsRow B e 1 v n xs):w.drew.ownsRow B e 1 v n xs:=h
def ItQ (x:Ar) (W:World) (e:Ending) (W':World):Prop:=
 ∃a n c b m d,e=.returned (.agg #[.slice a n c,.slice b m d])∧Av W' a n c b m d x.1 (x.2.map S) (some x)∧Below W.heap.size W W'
section
variable {W:World} {a b:Option Addr} {n c m d:Nat} {l:List Int} {es:List ByteArray} {q:Ar}
theorem itemAt_is (h1:Av W a n c b m d l es (some q)) (hl:l≠[]) {i:Nat} (hi:i<nI l):
 Calls Tryz.prog 50 #[.agg #[.slice a n c,.slice b m d],.int .i64 (i:Int)] W (ItQ (itA q.1 q.2 i) W):=by
 obtain⟨i1,i2,i3,i4⟩:=h1.items
 clear i4
 rw[mN_nI hl]at i1 i2 i3
 have hml:=h1.mlen.2.2
 have hle:=cut_le i1 hi
 have hn1:1≤n:=by
  rw[←h1.v.s.1]
  exact Nat.pos_of_ne_zero fun e=>hl (List.length_eq_zero_iff.1 e)
 have hnc:=h1.c.nc
 have hmd:=h1.c.md
 have hxr:=itA_rok h1.i.rok (i:=i) (.inr (by rw[h1.fst];exact hi))
 have hx1:(itA q.1 q.2 i).1=l.tail:=by rw[h1.fst,itA_cut hl]
 have hx2:(itA q.1 q.2 i).2.map S=(es.drop (i*kI l)).take (kI l):=by rw[h1.fst,itA_cut hl,h1.i.2.1,List.map_take,List.map_drop]
 generalize itA q.1 q.2 i=x at*
 have KX:=Lib.hid (And.intro hxr (And.intro hx1 hx2))
 have K1:Hid (∀w,Below W.heap.size W w→Calls Tryz.prog 22 #[.agg #[.slice a n c,.slice b m d]] w (IntEnd (nI l:Nat) w)):=Lib.hid fun w hb=>by
  have:=VMany_av (h1.below hb)
  rw[mN_nI hl]at this
  exact this
 have HV:=Lib.hid h1.v
 have hn3:=h1.n3
 clear hxr hx1 hx2 h1
 generalize nI l=N at*
 obtain⟨k,hk⟩:∃k,kI l=k:=⟨_,rfl⟩
 rw[hk]at i1 hle KX
 clear hk hl
 obtain⟨o1,e1⟩:∃o,o=i*k:=⟨_,rfl⟩
 obtain⟨o2,e2⟩:∃o,o=o1+k:=⟨_,rfl⟩
 rw[←e1]at hle KX
 rw[←e2]at hle
 have ek:o2-o1=k:=by omega
 rw[←ek]at KX
 have hN:0<N:=by omega
 have hk2:k≤m:=by omega
 have hd2:(m:Int)/(N:Int)=(k:Int):=item_div hN i1
 have hd:(m:Int).tdiv (N:Int)=(k:Int):=by
  rw[i1,Int.natCast_mul,Int.mul_comm,Int.mul_tdiv_cancel _ (by omega)]
 have hw:IntKind.i64.wrap ((m:Int).tdiv (N:Int))=(k:Int):=by rw[hd];exact IntWalk.i64_in _ (by omega)
 have hw2:IntKind.i64.wrap ((m:Int)/(N:Int))=(k:Int):=by rw[hd2];exact IntWalk.i64_in _ (by omega)
 have hN0:((N:Int)==0)=false:=beq_eq_false_iff_ne.2 (by omega)
 have hNn:(N:Int)≠0:=by omega
 have hNz:¬N=0:=by omega
 have hwN:IntKind.i64.wrap (N:Int)=(N:Int):=IntWalk.i64_in _ (by omega)
 have hwm:IntKind.i64.wrap (m:Int)=(m:Int):=IntWalk.i64_in _ (by omega)
 have hwk:IntKind.i64.wrap (k:Int)=(k:Int):=IntWalk.i64_in _ (by omega)
 have ho1:IntKind.i64.wrap ((i:Int)*(k:Int))=(o1:Int):=item_wrap e1 (by omega)
 have hi1:IntKind.i64.wrap ((i:Int)+1)=(i:Int)+1:=IntWalk.i64_in _ (by omega)
 have ho2:IntKind.i64.wrap (((i:Int)+1)*(k:Int))=(o2:Int):=by
  have:=item_wrap (show o2=(i+1)*k by rw[e2,e1,Nat.add_mul,Nat.one_mul]) (by omega)
  rwa [show((i+1:Nat):Int)=(i:Int)+1 by omega]at this
 have hge:(0:Int)≤(m:Int):=by omega
 have hr1:=run_tlB Tryz.underlying22 sizeInt a n c hn1 hnc
 have hr2:=run_cut2 Tryz.underlying23 sizeStr b m d o1 o2 (by omega) (by omega)
 have HF:=Lib.hid (And.intro hw (And.intro hw2 (And.intro hN0 (And.intro hNn (And.intro hwN (And.intro hwm hwk))))))
 have HG:=Lib.hid (And.intro ho1 (And.intro hi1 ho2))
 have HR:=Lib.hid (And.intro hr1 hr2)
 have h:=live1 W a n c b m d
 have ho12:o1≤o2:=by omega
 clear hwN hwm hwk hw hw2 hd hd2 hN0 hNn ho1 hi1 ho2 hr1 hr2 e1 e2 i1 i2 hk2 hN ek
 go_enter Tryz.func50,Tryz.ntmps50
 go_upto_region 1 with fail
 generalize hw4:(W.alloc (.cells #[.slice a n c,.slice b m d] 25)).alloc (.cells #[.slice none 0 0,.slice none 0 0] 25)=w4 at*
 clear hw4
 have x0:=h.out.2.1.c0
 have x1:=h.out.2.1.c1
 have lA:=h.out.2.1.lt
 have hb0:=h.out.2.2
 have hq:Below w4.heap.size w4 w4:=Below.refl _ _
 obtain⟨hw,hw2,hN0,hNn,hwN,hwm,hwk⟩:=HF.out
 have K4:=Lib.hid (fun z (hz:Below w4.heap.size w4 z)=>(K1.out z (hb0.trans (hz.mono hb0.size))).mono fun e w' (h:_∧_)=>(⟨h.1,hz.trans (h.2.mono hz.size)⟩:e=.returned (.int .i64 (N:Int))∧Below w4.heap.size w4 w'))
 go_region_held3 (fun w'=>w'.cell? ⟨W.heap.size,0,none⟩=some (.slice a n c)∧w'.cell? ⟨W.heap.size,1,none⟩=some (.slice b m d))
  (first|exact⟨(Below.cell (p:=⟨W.heap.size,0,none⟩) hq lA).trans x0,(Below.cell (p:=⟨W.heap.size,1,none⟩) hq lA).trans x1⟩|exact⟨(Below.cell (p:=⟨W.heap.size,0,none⟩) (Below.drew hq) lA).trans x0,(Below.cell (p:=⟨W.heap.size,1,none⟩) (Below.drew hq) lA).trans x1⟩|fail)
  (first
    |(go_at_call 22;refine(K4.out _ (by first|exact hq|exact Below.drew hq)).mono ?_;rintro e wq ⟨rfl,hq⟩)
    |fail)
 rename_i hHeld
 clear hHeld K4 hNz hw hw2 hN0 hNn hwN hwm hwk x0 x1 lA
 go_upto_region 2 with fail
 replace h:=live_to h hq
 generalize wq=w5 at*
 have x0:=h.out.2.1.c0
 have x1:=h.out.2.1.c1
 have lA:=h.out.2.1.lt
 have hb5:=h.out.2.2
 clear hq
 have hq:Below w5.heap.size w5 w5:=Below.refl _ _
 obtain⟨ho1,hi1,ho2⟩:=HG.out
 obtain⟨hr1,hr2⟩:=HR.out
 have QI:Hid (∀z,Below w5.heap.size w5 z→Calls Tryz.prog 71 #[.slice (tlB a c) (n-1) (c-1)] z (fun e w'=>∃a' c',e=.returned (.slice a' (n-1) c')∧w'.ownsRow w5.heap.size 3 1 (.slice a' (n-1) c') (n-1) (valsI l.tail)∧Below w5.heap.size w5 w')):=
  Lib.hid fun z hz=>(Clone_o _ _ _ _ _ ((HV.out.below (hb5.trans (hz.mono hb5.size))).s.tlB hn1 hnc) (by omega)).mono fun e w' ⟨a',c',h1,h2,h3⟩=>⟨a',c',h1,own_base h2 hz.size,hz.trans (h3.mono hz.size)⟩
 have QS:Hid (∀z a1 c1,Below w5.heap.size w5 z→z.ownsRow w5.heap.size 3 1 (.slice a1 (n-1) c1) (n-1) (valsI l.tail)→Calls Tryz.prog 66 #[.slice (cutA b o1 d) (o2-o1) (d-o1)] z (fun e w'=>∃a' c',e=.returned (.slice a' (o2-o1) c')∧w'.ownsRow w5.heap.size 9 1 (.slice a' (o2-o1) c') (o2-o1) (valsS ((es.drop o1).take (o2-o1)))∧w'.ownsRow w5.heap.size 3 1 (.slice a1 (n-1) c1) (n-1) (valsI l.tail)∧Below w5.heap.size w5 w')):=
  Lib.hid fun z a1 c1 hz ho=>(CloneS_o _ _ _ _ _ ((HV.out.below (hb5.trans (hz.mono hb5.size))).t.cut2 ho12 hle hmd) (by omega)).mono fun e w' ⟨a',c',h1,h2,h3⟩=>⟨a',c',h1,own_base h2 hz.size,own_below ho h3,hz.trans (h3.mono hz.size)⟩
 go_region_held3 (fun w'=>w'.cell? ⟨W.heap.size,0,none⟩=some (.slice a n c)∧w'.cell? ⟨W.heap.size,1,none⟩=some (.slice b m d))
  (first|exact kept_box (by omega) ⟨(Below.cell (p:=⟨W.heap.size,0,none⟩) hq lA).trans x0,(Below.cell (p:=⟨W.heap.size,1,none⟩) hq lA).trans x1⟩|exact⟨(Below.cell (p:=⟨W.heap.size,0,none⟩) hq lA).trans x0,(Below.cell (p:=⟨W.heap.size,1,none⟩) hq lA).trans x1⟩|exact⟨(Below.cell (p:=⟨W.heap.size,0,none⟩) (Below.drew hq) lA).trans x0,(Below.cell (p:=⟨W.heap.size,1,none⟩) (Below.drew hq) lA).trans x1⟩|fail)
  (first
    |(go_at_call 71;(with_reducible refine(QI.out _ (by first|exact hq|exact Below.drew hq)).mono ?_);rintro e w6 ⟨ai,ci,rfl,hoi,hq6⟩;have hq:=hq6)
    |(go_at_call 66;(with_reducible refine(QS.out _ ai ci (by first|exact hq|exact Below.drew hq) (by first|exact hoi|exact own_drew hoi)).mono ?_);rintro e w7 ⟨as_,cs_,rfl,hos,hoi2,hq7⟩;have hq:=hq7;have hBR:=h.out.1.below hq h.out.1.lt;have y0:=hBR.c0;have y1:=hBR.c1;have f0:=hBR.f 0;have f1:=hBR.f 1)
    |fail)
 go_wp2_with fail
 have hR:=hBR.set ai (n-1) ci as_ (o2-o1) cs_
 have r0:=hR.c0
 have r1:=hR.c1
 obtain⟨k1,k2,k3⟩:=KX.out
 refine bodyPost_ret (v:=.agg #[.slice ai (n-1) ci,.slice as_ (o2-o1) cs_]) (by simp[results,Tryz.results50,go_sem,r0,r1]) rfl ⟨_,_,_,_,_,_,rfl,⟨⟨?_,?_,by omega⟩,⟨(own_caps hoi2).1,(own_caps hoi2).2,(own_caps hos).1,(own_caps hos).2⟩,?_,k1.ais⟩,below_made (hb5.trans (hq7.mono hb5.size)) (by omega) _ _⟩
 · rw[k2];exact hBR.sl (own_sl hoi2) _ _
 · rw[k3];exact hBR.st (own_st hos) _ _
 · refine k1.sz ?_
   show _=(x.2.map S).length
   rw[k3]
   exact(own_st hos).1.symm
end
theorem items_is (v0 v1:Value) (W:World):Calls Tryz.prog 44 #[.agg #[v0,v1]] W fun e w'=>e=.returned (.func (.func 90) #[] #[.pointer (some ⟨W.heap.size,0,none⟩)])∧w'=W.alloc (.cells #[v0,v1] 25):=by
 have hmf:∀(fn:Fn) (first cap:Array Value) (w:World),(Instr.makeFunc fn first cap).run Tryz.prog w=.ok (.func fn first cap) w:=fun _ _ _ _=>rfl
 go_enter Tryz.func44,Tryz.ntmps44
 go_wp2
 go_ret
 exact⟨rfl,rfl⟩
def EnI (q:Ar) (k:Nat) (args:Array Value) (W:World):Prop:=
 ∃a n c b m d,args=#[.int .i64 (k:Int),.agg #[.slice a n c,.slice b m d]]∧Av W a n c b m d (itA q.1 q.2 k).1 ((itA q.1 q.2 k).2.map S) (some (itA q.1 q.2 k))
def KpI (g:Nat) (X Y:World):Prop:=Soft X Y∧(g<X.heap.size→Y.heap[g]?=X.heap[g]?)
theorem KpI.trans {g:Nat} {X Y Z:World} (h:KpI g X Y) (k:KpI g Y Z):KpI g X Z:=⟨h.1.trans k.1,fun hg=>(k.2 (Nat.lt_of_lt_of_le hg h.1.size)).trans (h.2 hg)⟩
theorem kpI_below {g:Nat} {X Y:World} (h:Below X.heap.size X Y):KpI g X Y:=⟨below_soft h (Nat.le_refl _),fun hg=>h.block g hg⟩
theorem kpI_put {g l:Nat} {X:World} {o:Obj} (o':Obj) (h:X.heap[l]?=some o) (ho:o.isCells=false) (hg:g<l):KpI g X (X.putObj l o'):=⟨soft_put o' h ho,fun _=>World.putObj_heap_other (by omega)⟩
theorem enI_size {q:Ar} {k:Nat} {args:Array Value} {W:World} (h:EnI q k args W):args.size=2:=by
 obtain⟨_,_,_,_,_,_,rfl,_⟩:=h
 rfl
attribute [local go_sem] Oper.semAt_some
theorem items_gives (n:Nat) {g N:Nat} {a b:Option Addr} {nn c m d:Nat} {l:List Int} {es:List ByteArray} {q:Ar} {w:World} (hB:Bx w g a nn c b m d) (h1:Av w a nn c b m d l es (some q)) (hl:l≠[]) (hN:nI l=N):
 Gives2 Fence.wide n Tryz.prog 90 #[.pointer (some ⟨g,0,none⟩)] (EnI q) N (KpI g) w:=by
 intro y J Jx W hW hJ hY h0
 have hBW:=hB.below hW hB.lt
 have hAW:=h1.below hW
 refine callsIn_of_wp Tryz.func90 rfl trivial ?_ rfl
 simp only[Tryz.ntmps90,List.size_toArray,List.length_cons,List.length_nil,Nat.reduceAdd,Nat.reduceSub,Array.replicate_succ,Array.replicate_zero,List.push_toArray,List.append_toArray,List.nil_append,List.cons_append]
 have c0:=hBW.c0
 have c1:=hBW.c1
 have KM:Hid (Calls Tryz.prog 22 #[.agg #[.slice a nn c,.slice b m d]] W (IntEnd (N:Nat) W)):=Lib.hid (by
  have:=VMany_av hAW
  rw[mN_nI hl,hN]at this
  exact this)
 have HY:=Lib.hid hY
 have HJ:=Lib.hid hJ
 have HL:=Lib.hid hl
 have HN:=Lib.hid hN
 have HA:=Lib.hid hAW
 have hN2:N≤1099511627776:=by
  rw[←hN,←mN_nI hl]
  exact h1.items.2.2.1
 clear hY hJ hW h1 hB hN hl hAW
 gi_wp2
 refine⟨trivial,fun h=>(by cases h),(callsIn_wide.2 KM.out).mono ?_⟩
 rintro e w1 ⟨rfl,hq1⟩
 have hB1:=hBW.below hq1 hBW.lt
 have hJ1:=HJ.out _ _ _ h0 hq1
 have hA1:=HA.out.below hq1
 clear KM hBW h0 c0 c1 HA hq1
 have HA:=Lib.hid hA1
 clear hA1
 gi_wp2
 gi_loopw [6] (fun iv wr=>∃i:Nat,iv=.int .i64 i∧i≤N∧Bx wr g a nn c b m d∧Av wr a nn c b m d l es (some q)∧J i wr) (fun iv _=>N-(intOf iv).toNat)
 case atStart=>exact⟨0,rfl,Nat.zero_le _,hB1,HA.out,hJ1⟩
 case round=>
  obtain⟨i,rfl,hi,hb,ha,hj⟩:=hrel
  clear hB1 hJ1 HA
  by_cases hlt:i<N
  · have e2:(i:Int)<(N:Int):=by omega
    have v0:=hb.c0
    have v1:=hb.c1
    have K1:=Lib.hid (itemAt_is ha HL.out (i:=i) (by rw[HN.out];exact hlt))
    have HB:=Lib.hid hb
    have HA:=Lib.hid ha
    have HJi:=Lib.hid hj
    clear hb ha hj
    gi_wp2
    refine⟨trivial,fun h=>(by cases h),(callsIn_wide.2 K1.out).mono ?_⟩
    rintro e w2 ⟨ai,ni,ci,bi,mi,di,rfl,hav,hq⟩
    obtain⟨fn,tmps,assign,body,hy,hR⟩:=HY.out i _ w2 hlt ⟨_,_,_,_,_,_,rfl,hav⟩ (HJ.out _ _ _ HJi.out hq)
    have HQ:=Lib.hid hq
    clear hav hq v0 v1
    gi_wp2
    refine⟨fun h=>(by cases h),hR.mono ?_⟩
    rintro e W3 (⟨rfl,hJ3,hk3⟩|⟨rfl,hJx3⟩)
    · have hb3:Bx W3 g a nn c b m d:=(hk3.2 (HB.out.below HQ.out HB.out.lt).lt).trans (HB.out.below HQ.out HB.out.lt)
      have ha3:=(HA.out.below HQ.out).soft hk3.1
      gi_wp2
      go_roundw
      case rel=>exact⟨i+1,by go_num,by omega,hb3,ha3,hJ3⟩
      case measure=>simp[intOf];omega
    · gi_wp2
      refine bodyPost_ret (results_none rfl _ _ _) rfl ?_
      exact⟨⟨_,rfl⟩,.inr hJx3⟩
  · have e2:¬(i:Int)<(N:Int):=by omega
    obtain rfl:i=N:=by omega
    gi_wp2
    go_end0
    exact⟨⟨_,rfl⟩,.inl hj⟩
end Go.Proofs.YtbijncndjlmmdaaGreatDoor
namespace Go.Proofs.YtbijncndjlmmdaaGreatDoor
set_option linter.unusedVariables false
set_option linter.unusedSimpArgs false
def Vb1 (f:Ar→Option Ar×Int):Prop:=∀x,Rok (some x)→Told (f x)∧Rok (f x).1
def Vb2 (g:Ar→Ar→Option Ar×Int):Prop:=∀x y,Rok (some x)→Rok (some y)→Told (g x y)∧Rok (g x y).1
theorem iT_rok {q:Ar} (h:Rok (some q)):∀x∈iT q,Rok (some x):=by
 intro x hx
 obtain⟨i,hi,rfl⟩:=iT_mem.1 hx
 exact itA_rok h (.inr hi)
theorem joR_rok {α:Type} {f:α→Option Ar×Int} {l:List α} (hf:∀x∈l,Rok (f x).1):Rok (joR (runL f l)).1:=by
 obtain⟨o,k,ho⟩:∃o k,runL f l=(o,k):=⟨_,_,rfl⟩
 rw[ho]
 cases o with
 |none=>exact trivial
 |some ys=>exact jo_rok (run_rok hf ho)
theorem run_ok {α:Type} {f:α→Option Ar×Int} {l:List α} (hf:∀x∈l,Told (f x)∧Rok (f x).1):Told (joR (runL f l))∧Rok (joR (runL f l)).1:=
 ⟨joR_told (run_told fun x hx=>(hf x hx).1),joR_rok fun x hx=>(hf x hx).2⟩
theorem eaA_ok {f:Ar→Option Ar×Int} (hf:Vb1 f) {o:Option Ar} (h:Rok o):Told (eaA f o)∧Rok (eaA f o).1:=by
 cases o with
 |none=>exact⟨.no ⟨by decide,by decide⟩,trivial⟩
 |some q=>
  unfold eaA
  dsimp only
  split
  · exact hf q h
  · split
    · exact⟨.yes _,h⟩
    · exact run_ok fun x hx=>hf x (iT_rok h x hx)
theorem rdL_ok {g:Ar→Ar→Option Ar×Int} (hg:Vb2 g):∀{l:List Ar} {a:Ar},Rok (some a)→(∀x∈l,Rok (some x))→Told (rdL g a l)∧Rok (rdL g a l).1
 |[],a,ha,_=>⟨.yes _,ha⟩
 |x::r,a,ha,h=>by
  have h1:=hg a x ha (h x (List.mem_cons_self ..))
  obtain⟨o,c,ho⟩:∃o c,g a x=(o,c):=⟨_,_,rfl⟩
  cases o with
  |none=>
   rw[rdL_stop ho]
   rw[ho]at h1
   exact⟨h1.1,trivial⟩
  |some y=>
   rw[rdL_cons ho]
   rw[ho]at h1
   exact rdL_ok hg h1.2 fun z hz=>h z (List.mem_cons_of_mem _ hz)
theorem stL_rok {g:Ar→Ar→Option Ar×Int} (hg:Vb2 g):∀{l:List Ar} {a:Ar} {ys:List Ar} {e:Int},Rok (some a)→(∀x∈l,Rok (some x))→stL g a l=(some ys,e)→∀y∈ys,Rok (some y)
 |[],a,ys,e,ha,_,h=>by
  have h':(some [a],(0:Int))=(some ys,e):=h
  have e1:=Option.some.inj (Prod.mk.inj h').1
  subst e1
  intro y hy
  rw[List.mem_singleton]at hy
  rw[hy];exact ha
 |x::r,a,ys,e,ha,hr,h=>by
  have h1:=hg a x ha (hr x (List.mem_cons_self ..))
  obtain⟨o,c,ho⟩:∃o c,g a x=(o,c):=⟨_,_,rfl⟩
  cases o with
  |none=>rw[stL_stop ho]at h;cases h
  |some y=>
   rw[stL_cons ho]at h
   rw[ho]at h1
   obtain⟨p,d,hp⟩:∃p d,stL g y r=(p,d):=⟨_,_,rfl⟩
   rw[hp]at h
   cases p with
   |none=>cases h
   |some zs=>
    have h':(some (a::zs),(0:Int))=(some ys,e):=h
    have e1:=Option.some.inj (Prod.mk.inj h').1
    subst e1
    intro z hz
    rcases List.mem_cons.1 hz with rfl|hz
    · exact ha
    · exact stL_rok hg h1.2 (fun w hw=>hr w (List.mem_cons_of_mem _ hw)) hp z hz
theorem stL_told {g:Ar→Ar→Option Ar×Int} (hg:Vb2 g) {a:Ar} {l:List Ar} (ha:Rok (some a)) (hl:∀x∈l,Rok (some x)):(∃ys,stL g a l=(some ys,0))∨(∃k,stL g a l=(none,k)∧0<k∧k≤8):=by
 rcases @st_rd g a l with⟨ys,z,h1,_,_,_⟩|⟨k,h1,h2⟩
 · exact .inl ⟨_,h1⟩
 · refine .inr ⟨k,h1,?_⟩
   rcases(rdL_ok hg ha hl).1 with⟨q,h⟩|⟨k',h,hk⟩
   · rw[h2]at h;cases h
   · rw[h2]at h;cases h;exact hk
theorem mem_tl {α:Type} {l:List α} {x:α} (h:x∈l.tail):x∈l:=List.mem_of_mem_tail h
theorem rdA_ok {g:Ar→Ar→Option Ar×Int} (hg:Vb2 g) {u o:Option Ar} (hu:Rok u) (h:Rok o):Told (rdA g u o)∧Rok (rdA g u o).1:=by
 cases o with
 |none=>exact⟨.no ⟨by decide,by decide⟩,trivial⟩
 |some q=>
  unfold rdA
  dsimp only
  split
  · exact⟨.yes _,h⟩
  · split
    · cases u with
      |none=>exact⟨.no ⟨by decide,by decide⟩,trivial⟩
      |some v=>
       dsimp only
       split
       · exact⟨.yes _,hu⟩
       · exact⟨.no ⟨by decide,by decide⟩,trivial⟩
    · exact rdL_ok hg (itA_rok h (.inr (by omega))) fun x hx=>iT_rok h x (mem_tl hx)
theorem scA_ok {g:Ar→Ar→Option Ar×Int} (hg:Vb2 g) {o:Option Ar} (h:Rok o):Told (scA g o)∧Rok (scA g o).1:=by
 cases o with
 |none=>exact⟨.no ⟨by decide,by decide⟩,trivial⟩
 |some q=>
  unfold scA
  dsimp only
  split
  · exact⟨.yes _,h⟩
  · rename_i hn
    have ha:=itA_rok h (i:=0) (.inr (by omega))
    have hl:∀x∈(iT q).tail,Rok (some x):=fun x hx=>iT_rok h x (mem_tl hx)
    refine⟨joR_told (stL_told hg ha hl),?_⟩
    obtain⟨p,k,hp⟩:∃o k,stL g (itA q.1 q.2 0) (iT q).tail=(o,k):=⟨_,_,rfl⟩
    rw[hp]
    cases p with
    |none=>exact trivial
    |some ys=>exact jo_rok (stL_rok hg ha hl hp)
theorem prL_ok {g:Ar→Ar→Option Ar×Int} (hg:Vb2 g) {a:Ar} {l:List Ar} (ha:Rok (some a)) (hl:∀x∈l,Rok (some x)):Told (joR (prL g a l))∧Rok (joR (prL g a l)).1:=by
 have hf:∀p∈l.zip (a::l),Told (g p.1 p.2)∧Rok (g p.1 p.2).1:=by
  rintro⟨x,y⟩ hp
  have h1:=hl x (List.of_mem_zip hp).1
  have h2:Rok (some y):=by
   rcases List.mem_cons.1 (List.of_mem_zip hp).2 with rfl|h
   · exact ha
   · exact hl y h
  exact hg x y h1 h2
 unfold prL
 rcases run_told (f:=fun p:Ar×Ar=>g p.1 p.2) fun p hp=>(hf p hp).1 with⟨ys,h⟩|⟨k,h,hk⟩
 · rw[h]
   show Told (joA (a::ys))∧Rok (joA (a::ys)).1
   refine⟨jo_told _,jo_rok ?_⟩
   intro y hy
   rcases List.mem_cons.1 hy with rfl|hy
   · exact ha
   · exact run_rok (f:=fun p:Ar×Ar=>g p.1 p.2) (fun p hp=>(hf p hp).2) h y hy
 · rw[h]
   exact⟨.no hk,trivial⟩
theorem prA_ok {g:Ar→Ar→Option Ar×Int} (hg:Vb2 g) {o:Option Ar} (h:Rok o):Told (prA g o)∧Rok (prA g o).1:=by
 cases o with
 |none=>exact⟨.no ⟨by decide,by decide⟩,trivial⟩
 |some q=>
  unfold prA
  dsimp only
  split
  · exact⟨.yes _,h⟩
  · exact prL_ok hg (itA_rok h (.inr (by omega))) fun x hx=>iT_rok h x (mem_tl hx)
theorem paA_ok {g:Ar→Ar→Option Ar×Int} (hg:Vb2 g) {q r w:Ar} {n:Nat} (hq:Rok (some q)) (hr:Rok (some r)) (hw:Rok (some w)) (h1:q.1=[]∨n≤nI q.1) (h2:r.1=[]∨n≤nI r.1):Told (paA g q r n w)∧Rok (paA g q r n w).1:=by
 unfold paA
 split
 · exact⟨.yes _,hw⟩
 · refine run_ok fun i hi=> ?_
   have hi:=List.mem_range.1 hi
   exact hg _ _ (itA_rok hq (h1.imp id fun h=>by omega)) (itA_rok hr (h2.imp id fun h=>by omega))
theorem boA_ok {g:Ar→Ar→Option Ar×Int} (hg:Vb2 g) {o p:Option Ar} (h1:Rok o) (h2:Rok p):Told (boA g o p)∧Rok (boA g o p).1:=by
 cases o with
 |none=>exact⟨.no ⟨by decide,by decide⟩,trivial⟩
 |some q=>cases p with
  |none=>exact⟨.no ⟨by decide,by decide⟩,trivial⟩
  |some r=>
   unfold boA
   dsimp only
   split
   · exact hg q r h1 h2
   · split
     · rename_i hq
       exact paA_ok hg h1 h2 h2 (.inl hq) (.inr (Nat.le_refl _))
     · split
       · exact⟨.no ⟨by decide,by decide⟩,trivial⟩
       · rename_i hne
         refine paA_ok hg h1 h2 h1 (.inr (Nat.le_refl _)) ?_
         by_cases hr:r.1=[]
         · exact .inl hr
         · exact .inr (by
            by_cases he:nI q.1=nI r.1
            · omega
            · exact absurd ⟨hr,he⟩ hne)
end Go.Proofs.YtbijncndjlmmdaaGreatDoor

import Derived.Test.YtbijncndjlmmdaaGreatDoorMaw
set_option maxHeartbeats 3200000
set_option maxRecDepth 100000
namespace Go.Proofs.YtbijncndjlmmdaaGreatDoor
set_option linter.unusedVariables false
set_option linter.unusedSimpArgs false
open Go.RowKit
theorem flM_map (l xs:List Int):flM l (xs.map S)=(flM l xs).map S:=by
 unfold flM
 rw[List.map_filterMap,List.length_map]
 congr 1
 funext j
 rw[List.getElem?_map]
theorem flM_sub {α:Type} {l:List Int} {es:List α} {x:α} (h:x∈flM l es):x∈es:=by
 unfold flM at h
 obtain⟨j,_,hj⟩:=List.mem_filterMap.1 h
 exact List.mem_of_getElem? hj
theorem fl_rok {q:Ar} (h:Rok (some q)) (hf:Fits q.1 q.2):Rok (some (q.1.reverse,flM q.1 q.2)):=
 ⟨szE_may.2 hf.turned.1,hf.turned.2,fun x hx=>h.2.2 x (flM_sub hx)⟩
theorem fl_off {l:List Int} {es:List ByteArray} (hf:Fits l es) {k:Nat} (hk:k<es.length):
 plB l.reverse k=true∧plO l.reverse k=plL l.reverse k∧ofB l (plL l.reverse k).reverse=true∧
  ∃o:Nat,ofV l (plL l.reverse k).reverse=(o:Int)∧o<es.length∧(flM l es).getD k ByteArray.empty=es.getD o ByteArray.empty:=by
 have ht:=hf.turned
 have hp:0<pr l:=by have:=hf.2;omega
 have ha:=(hf.1.pos hp).turned
 obtain⟨h1,h2⟩:=plB_yes (szE_may.2 ht.1) (k:=(k:Int)) (by omega) (by rw[pr_reverse,←hf.2];omega)
 obtain⟨t1,t2⟩:=tno_range ha (k:Int)
 rw[pr_reverse,←hf.2]at t2
 have hin:=inL_turned ha (k:Int)
 rw[List.reverse_reverse]at hin
 have hb:ofB l (plL l.reverse k).reverse=true:=by
  unfold ofB
  rw[decide_eq_true (szE_may.2 hf.1),decide_eq_true (by rw[List.length_reverse,plL_length,List.length_reverse]),hin]
  rfl
 have hv:ofV l (plL l.reverse k).reverse=tno l.reverse k:=by
  unfold ofV
  rw[if_pos hb]
  unfold tno
  rw[List.reverse_reverse,List.length_reverse]
 refine⟨h1,h2,hb,(tno l.reverse k).toNat,by rw[hv];omega,by omega,?_⟩
 rw[List.getD_eq_getElem?_getD,List.getD_eq_getElem?_getD,(flM_at hf).2 k hk]
theorem fl_no {a1 b1:Option Addr} {n1 c1 m1 d1:Nat} {l:List Int} {es:List ByteArray} {W:World} (h1:Av W a1 n1 c1 b1 m1 d1 l es none):
 Calls Tryz.prog 114 #[.agg #[.slice a1 n1 c1,.slice b1 m1 d1]] W (MEnd (none,1) W):=by
 have KV:=Lib.hid (fun w (hb:Below W.heap.size W w)=>VMay_av (h1.below hb))
 clear h1
 have h:=live1 W a1 n1 c1 b1 m1 d1
 go_enter Tryz.func114,Tryz.ntmps114
 have x1:=h.out.2.1.c0
 have y1:=h.out.2.1.c1
 go_wp2_with fail
 with_reducible refine(live h (KV.out _ h.out.2.2)).mono ?_
 clear h x1 y1
 rintro e w ⟨rfl,h⟩
 have y0:=h.out.1.c0
 have y3:=h.out.1.c1
 have f0:=h.out.1.f 0
 have f1:=h.out.1.f 1
 go_wp2_with fail
 have hR:=h.out.1.set none 0 0 none 0 0
 have r0:=hR.c0
 have r1:=hR.c1
 exact bodyPost_ret (v:=.tuple #[.agg #[.slice none 0 0,.slice none 0 0],.int .i64 1]) (by simp[results,Tryz.results114,go_sem,r0,r1]) rfl (mend_no h.out.1 h.out.2.2 (by omega))
theorem fl_yes {a1 b1:Option Addr} {n1 c1 m1 d1:Nat} {l:List Int} {es:List ByteArray} {W:World} {q:Ar} (h1:Av W a1 n1 c1 b1 m1 d1 l es (some q)):
 Calls Tryz.prog 114 #[.agg #[.slice a1 n1 c1,.slice b1 m1 d1]] W (MEnd (some (q.1.reverse,flM q.1 q.2),0) W):=by
 have KV:=Lib.hid (fun w (hb:Below W.heap.size W w)=>VMay_av (h1.below hb))
 have hlen:=h1.v.t.1
 have hf:Fits l es:=by
  have hf:=h1.fits
  exact⟨by rw[←h1.fst];exact hf.1,by rw[hlen];exact h1.mlen.2.1⟩
 have hm4:=h1.mlen.2.2
 have hn3:=h1.n3
 have hnl:=h1.v.s.1
 have hEs:(TS (some (q.1.reverse,flM q.1 q.2))).2=flM l es:=by
  rw[←h1.fst,h1.i.2.1]
  exact(flM_map _ _).symm
 have hSh:(TS (some (q.1.reverse,flM q.1 q.2))).1=l.reverse:=by rw[←h1.fst];rfl
 have KE:=Lib.hid (And.intro hEs (And.intro hSh ((flM_at hf).1.trans hlen)))
 have KF:=Lib.hid (fun k (hk:k<m1)=>fl_off hf (k:=k) (by rw[hlen];exact hk))
 have KC:=Lib.hid (fun w (hb:Below W.heap.size W w)=>Clone_o a1 n1 c1 l w (h1.v.s.below hb) (by omega))
 have KT:=Lib.hid (fun w (hb:Below W.heap.size W w)=>h1.v.below hb)
 have HR:=Lib.hid (fl_rok h1.i.rok h1.fits)
 have HN:=Lib.hid hnl
 have HL:=Lib.hid hlen
 have hmk:=run_mks m1 (by omega)
 clear h1 hEs hSh hlen hf hnl
 have h:=live1 W a1 n1 c1 b1 m1 d1
 go_enter Tryz.func114,Tryz.ntmps114
 have x1:=h.out.2.1.c0
 have y1:=h.out.2.1.c1
 go_wp2_with fail
 with_reducible refine(live h (KV.out _ h.out.2.2)).mono ?_
 clear h x1 y1
 rintro e w ⟨rfl,h⟩
 have x1:=h.out.2.1.c0
 have y1:=h.out.2.1.c1
 go_wp2_with fail
 refine(KC.out _ h.out.2.2).mono ?_
 clear x1 y1
 rintro e w1 ⟨ta,tc,rfl,ho,hb⟩
 go_wp2_with fail
 refine(Reverse_o ho (by omega)).mono ?_
 rintro e w2 ⟨rfl,ho2,hg⟩
 have hb2:Below w.heap.size w w2:=hb.trans (grown_below' hg (fun g hg'=>(ho.lt g hg').1) hb.size)
 replace h:=live_to h hb2
 have HO:=Lib.hid ho2
 clear ho hb hg ho2 hb2 KC KV
 have x1:=h.out.2.1.c0
 have y1:=h.out.2.1.c1
 go_wp2_with fail
 have hR0:=Sr.made w2 m1
 have hbA:Below w2.heap.size w2 (w2.alloc (.cells (madeCells #[.string ⟨#[]⟩] m1) 9)):=(Below.refl _ _).alloc (Nat.le_refl _) _
 clear hmk x1 y1
 go_loopw [26] (fun i wr=>∃(k:Nat) (F:Nat→ByteArray),i=.int .i64 k∧k≤m1∧Sr wr w2.heap.size m1 F∧Hid (∀j,j<k→F j=(flM l es).getD j ByteArray.empty)∧Below w2.heap.size w2 wr) (fun i _=>m1-(intOf i).toNat)
 case atStart=>exact⟨0,_,rfl,by omega,hR0,Lib.hid (fun j hj=>by omega),hbA⟩
 case round=>
  obtain⟨k,F,rfl,hk,hRo,HF,hbq⟩:=hrel
  clear hR0 hbA
  have hr:=live_to h hbq
  by_cases hlt:k<m1
  · have e2:(k:Int)<(m1:Int):=by omega
    have HP:=Lib.hid (Place_ow ta n1 tc l.reverse (k:Int) wr (own_sl (own_below HO.out hbq)) (by omega))
    unfold PlOw PlOwn at HP
    obtain⟨q1,q2,q3,off,q4,q5,q6⟩:=KF.out k hlt
    rw[q1,q2]at HP
    rw[HL.out]at q5
    have hpl:(plL l.reverse (k:Int)).length=n1:=by rw[plL_length,List.length_reverse,HN.out]
    obtain⟨p,hp⟩:∃p,p=plL l.reverse (k:Int):=⟨_,rfl⟩
    rw[←hp]at HP q3 q4 hpl
    rw[hpl]at HP
    have hV:=KT.out wr hr.out.2.2
    obtain⟨bb,bo,rfl,hc⟩:=hV.t.2 (by omega)
    obtain⟨s,hs⟩:∃s,s=es.getD off ByteArray.empty:=⟨_,rfl⟩
    have hcs:=hc off q5
    rw[←hs]at hcs q6
    have HS:=Lib.hid (And.intro q6 (And.intro q3 q4))
    have HV:=Lib.hid hV.s
    have e3:(off:Int)<(m1:Int):=by omega
    have lc:bb<wr.heap.size:=World.block_lt_of_cell? wr _ hcs
    clear q1 q2 q3 q4 q5 q6 hp hpl hc hV hs
    go_wp2_with fail
    refine HP.out.mono ?_
    rintro e w4 ⟨pa,pc,rfl,hpo,hb4⟩
    have hpo':=hpo
    clear hpo
    go_wp2_with fail
    refine(Reverse_o hpo' (by omega)).mono ?_
    rintro e w5 ⟨rfl,hpo2,hg5⟩
    have hb5:Below wr.heap.size wr w5:=hb4.trans (grown_below' hg5 (fun g hg'=>(hpo'.lt g hg').1) hb4.size)
    have h5:=live_to hr hb5
    have x1:=h5.out.2.1.c0
    have y1:=h5.out.2.1.c1
    have HQ:=Offset_is a1 pa n1 c1 n1 pc l p.reverse w5 (HV.out.below hb5) (own_sl hpo2) (by omega)
    unfold OffIs at HQ
    rw[HS.out.2.1,HS.out.2.2]at HQ
    replace HQ:=Lib.hid HQ
    clear hpo' hg5 hb4 hpo2 h5
    go_wp2_with fail
    refine HQ.out.mono ?_
    rintro e w6 ⟨rfl,hd⟩
    have hb6:Below wr.heap.size wr w6:=hb5.trans (hd.below.mono hb5.size)
    clear x1 y1 HQ hd hb5
    have h6:=live_to hr hb6
    have x1:=h6.out.2.1.c0
    have y1:=h6.out.2.1.c1
    have hcs6:=(hb6.cell (p:=⟨bb,bo+off,none⟩) lc).trans hcs
    have hR6:=hRo.below hb6
    have y0:=hR6.cell (i:=k) hlt
    have f0:=hR6.frozen k
    have hR7:=hR6.set k s
    have hb7:Below w2.heap.size w2 w6:=hbq.trans (hb6.mono hbq.size)
    have hb8:=hb7.setCell (p:=⟨w2.heap.size,k,none⟩) (Nat.le_refl _) (.string s)
    have HF2:Hid (∀j,j<k+1→(fun j=>if j=k then s else F j) j=(flM l es).getD j ByteArray.empty):=Lib.hid fun j hj=>by
     show(if j=k then s else F j)=_
     by_cases hjk:j=k
     · rw[if_pos hjk,hjk,HS.out.1]
     · rw[if_neg hjk];exact HF.out j (by omega)
    clear hcs hRo hR6 hb6 hb7 h6 hbq hr
    go_wp2_with fail
    go_roundw
    case rel=>exact⟨k+1,_,by go_num,by omega,hR7,HF2,hb8⟩
    case measure=>simp[intOf];omega
  · have e2:¬(k:Int)<(m1:Int):=by omega
    obtain rfl:k=m1:=by omega
    replace h:=hr
    have HT:=Lib.hid (hRo.st KE.out.2.2 (fun j hj=>HF.out j hj))
    have HO2:=Lib.hid (own_below HO.out hbq)
    clear hr hRo hbq
    have y0:=h.out.1.c0
    have y3:=h.out.1.c1
    have f0:=h.out.1.f 0
    have f1:=h.out.1.f 1
    go_wp2_with fail
    have hV:Vl wr ta n1 (some ⟨w2.heap.size,0,none⟩) k (TS (some (q.1.reverse,flM q.1 q.2))).1 (TS (some (q.1.reverse,flM q.1 q.2))).2:=by
     rw[KE.out.1,KE.out.2.1]
     exact⟨own_sl HO2.out,HT.out,by omega⟩
    have hR:=h.out.1.set ta n1 tc (some ⟨w2.heap.size,0,none⟩) k k
    have r0:=hR.c0
    have r1:=hR.c1
    exact bodyPost_ret (v:=.tuple #[.agg #[.slice ta n1 tc,.slice (some ⟨w2.heap.size,0,none⟩) k k],.int .i64 0]) (by simp[results,Tryz.results114,go_sem,r0,r1]) rfl (mend_box (r:=_) h.out.1 h.out.2.2 (by omega) hV ⟨(own_caps HO2.out).1,(own_caps HO2.out).2,Nat.le_refl _,by unfold maxLen;omega⟩ HR.out)
theorem MReverse_is {a1 b1:Option Addr} {n1 c1 m1 d1:Nat} {l:List Int} {es:List ByteArray} {W:World} {o:Option Ar} (h1:Av W a1 n1 c1 b1 m1 d1 l es o):Calls Tryz.prog 113 #[.agg #[.slice a1 n1 c1,.slice b1 m1 d1]] W (MEnd (reM o) W):=by
 cases o with
 |none=>exact re_no h1
 |some q=>exact re_yes h1
theorem MFlip_is {a1 b1:Option Addr} {n1 c1 m1 d1:Nat} {l:List Int} {es:List ByteArray} {W:World} {o:Option Ar} (h1:Av W a1 n1 c1 b1 m1 d1 l es o):Calls Tryz.prog 114 #[.agg #[.slice a1 n1 c1,.slice b1 m1 d1]] W (MEnd (fiM o) W):=by
 cases o with
 |none=>exact fl_no h1
 |some q=>exact fl_yes h1
end Go.Proofs.YtbijncndjlmmdaaGreatDoor
namespace Go.Proofs.YtbijncndjlmmdaaGreatDoor
set_option linter.unusedVariables false
set_option linter.unusedSimpArgs false
open Go.RowKit
def AlO (xs:List Int) (W:World) (e:Ending) (W':World):Prop:=
 ∃a n c z,e=.returned (.tuple #[.slice a n c,.int .i64 z])∧((xs.all nearM=true∧z=0∧n=xs.length∧Sl W' a n xs∧n≤c∧c≤maxLen)∨(xs.all nearM=false∧z=5))∧Below W.heap.size W W'
theorem near_all {l:List Int}:l.all nearM=true↔∀j,j<l.length→nearM (l.getD j 0)=true:=fine_all
theorem near_some {l:List Int} {j:Nat} (hj:j<l.length) (h:nearM (l.getD j 0)=false):l.all nearM=false:=fine_some hj h
theorem All_av {a b:Option Addr} {k c n d:Nat} {s l:List Int} (W:World) (h:Vl W a k b n s (l.map S)) (hl:∀x∈l,x.natAbs<lim) (hn:n≤1000000) (hW:WT W):
 Calls Tryz.prog 143 #[.agg #[.slice a k c,.slice b n d]] W (AlO l W):=by
 have hll:l.length=n:=by have:=h.t.1;rwa [List.length_map]at this
 have HL:=Lib.hid hll
 have HT:=Lib.hid h.t
 have HI:=Lib.hid (fun j (hj:j<n)=>hl (l.getD j 0) (by
  rw[List.getD_eq_getElem?_getD,List.getElem?_eq_getElem (by omega)]
  exact List.getElem_mem _))
 have HW:=Lib.hid hW
 have hmk:=run_mki n hn
 clear h hl hll hW
 go_enter Tryz.func143,Tryz.ntmps143
 have hA:=(Bx.new W a k c b n d).alloc (.cells (madeCells #[.int .i64 0] n) 3)
 have x1:=hA.c1
 go_wp2_with fail
 have hR:=Ir.made (W.alloc (.cells #[.slice a k c,.slice b n d] 25)) n
 rw[show(W.alloc (.cells #[.slice a k c,.slice b n d] 25)).heap.size=W.heap.size+1 by simp]at hR
 have hb0:Below W.heap.size W ((W.alloc (.cells #[.slice a k c,.slice b n d] 25)).alloc (.cells (madeCells #[.int .i64 0] n) 3)):=((Below.refl _ _).alloc (Nat.le_refl _) _).alloc (by simp) _
 clear hmk x1
 go_loopw [16] (fun i wr=>∃(q:Nat) (F:Nat→Int),i=.int .i64 q∧q≤n∧Ir wr (W.heap.size+1) n F∧Hid (∀j,j<q→F j=l.getD j 0∧nearM (l.getD j 0)=true)∧Below W.heap.size W wr) (fun i _=>n-(intOf i).toNat)
 case atStart=>exact⟨0,_,rfl,by omega,hR,Lib.hid (fun j hj=>by omega),hb0⟩
 case round=>
  obtain⟨q,F,rfl,hq,hR1,HF,hb1⟩:=hrel
  clear hA hR hb0
  by_cases hlt:q<n
  · have e2:(q:Int)<(n:Int):=by omega
    obtain⟨bb,off,rfl,hc⟩:=HT.out.2 (by omega)
    have hck:=(hb1.cell (p:=⟨bb,off+q,none⟩) (World.block_lt_of_cell? W _ (hc q hlt))).trans (hc q hlt)
    rw[map_getD l (by rw[HL.out];exact hlt)]at hck
    obtain⟨x,hx⟩:∃x,x=l.getD q 0:=⟨_,rfl⟩
    rw[←hx]at hck
    have KN:=Lib.hid (near_S (x:=x) (by rw[hx];exact HI.out q hlt) wr (HW.out.below hb1))
    have HX:=Lib.hid hx
    clear hc hx
    generalize hs:S x=t at hck KN
    clear hs
    rcases Bool.eq_false_or_eq_true (nearM x)with hf|hf
    · have HFX:=Lib.hid hf
      rw[hf]at KN
      simp only[if_true]at KN
      clear hf
      go_wp2_with fail
      refine KN.out.mono ?_
      rintro e w2 ⟨rfl,hb⟩
      have hR2:=hR1.below hb
      have hb2:=hb1.trans (hb.mono hb1.size)
      have y0:=hR2.cell (i:=q) hlt
      have f0:=hR2.frozen q
      clear hR1 hb1 hb hck
      have hR3:=hR2.set q x
      have hb3:=hb2.setCell (p:=⟨W.heap.size+1,q,none⟩) (show W.heap.size≤W.heap.size+1 by omega) (.int .i64 x)
      have HF2:Hid (∀j,j<q+1→(fun j=>if j=q then x else F j) j=l.getD j 0∧nearM (l.getD j 0)=true):=Lib.hid fun j hj=>by
       show(if j=q then x else F j)=_∧_
       by_cases hjk:j=q
       · rw[if_pos hjk,hjk,←HX.out];exact⟨rfl,HFX.out⟩
       · rw[if_neg hjk];exact HF.out j (by omega)
      go_wp2_with fail
      go_roundw
      case rel=>exact⟨q+1,_,by go_num,by omega,hR3,HF2,hb3⟩
      case measure=>simp[intOf];omega
    · have HN:=Lib.hid (near_some (l:=l) (j:=q) (by rw[HL.out];exact hlt) (by rw[←HX.out];exact hf))
      rw[hf]at KN
      simp only[Bool.false_eq_true,if_false]at KN
      clear hf
      go_wp2_with fail
      refine KN.out.mono ?_
      rintro e w2 ⟨rfl,hb⟩
      have hb2:=hb1.trans (hb.mono hb1.size)
      go_wp2_with fail
      go_ret2
      exact⟨none,0,0,5,rfl,.inr ⟨HN.out,rfl⟩,hb2⟩
  · have e2:¬(q:Int)<(n:Int):=by omega
    obtain rfl:q=n:=by omega
    have hS:Sl wr (some ⟨W.heap.size+1,0,none⟩) q l:=hR1.sl HL.out (fun j hj=>(HF.out j hj).1)
    have HSS:=Lib.hid hS
    have HAll:=Lib.hid (near_all.2 fun j hj=>(HF.out j (by rw[HL.out]at hj;exact hj)).2)
    have hm:q≤maxLen:=by unfold maxLen;omega
    clear hS hR1
    go_wp2_with fail
    go_ret2
    exact⟨_,_,_,0,rfl,.inl ⟨HAll.out,rfl,HL.out.symm,HSS.out,Nat.le_refl _,hm⟩,hb1⟩
def lenV:Value→Nat
 | .slice _ n _=>n
 |_=>0
theorem cy_len (es:List Int) (n:Nat):(cyM es n).length=n:=by simp[cyM]
theorem cy_step {es:List Int} {k t:Nat} (h:es.length∣k) (ht:t≤es.length):cyM es (k+t)=cyM es k++es.take t:=by
 unfold cyM
 rw[List.range_add,List.map_append,List.map_map]
 congr 1
 apply List.ext_getElem
 · simp;omega
 · intro i g1 g2
   have hi:i<t:=by simpa using g1
   obtain⟨r,rfl⟩:=h
   simp[Nat.mul_add_mod,Nat.mod_eq_of_lt (show i<es.length by omega),List.getD_eq_getElem?_getD,List.getElem?_eq_getElem (show i<es.length by omega)]
theorem rs_rok {q r:Ar} (h:szE q.2=0) (hr:Rok (some r)) (h0:¬(pr q.2≠0∧r.2=[])):Rok (some (q.2,cyM r.2 (pr q.2).toNat)):=by
 have hp:=(may_pr h).1
 refine⟨h,by show((cyM r.2 (pr q.2).toNat).length:Int)=pr q.2;rw[cy_len];omega,fun x hx=> ?_⟩
 obtain⟨j,hj,rfl⟩:=List.mem_map.1 hx
 have hj:=List.mem_range.1 hj
 have hne:r.2≠[]:=fun e=>h0 ⟨by omega,e⟩
 have hl:j%r.2.length<r.2.length:=Nat.mod_lt _ (List.length_pos_iff.2 hne)
 rw[List.getD_eq_getElem?_getD,List.getElem?_eq_getElem hl]
 exact hr.2.2 _ (List.getElem_mem _)
theorem live_al {P:World→Prop} {w:World} {f:FuncId} {args:Array Value} {xs:List Int} (h:Lv P w) (hc:Calls Tryz.prog f args w (AlO xs w))
 (hs:Stb P:=by repeat' (first|exact Stb.bel _|exact Stb.bx|exact Stb.vl|refine Stb.and ?_ ?_|exact Stb.triv)):
 Calls Tryz.prog f args w fun e w'=>∃a n c z,e=.returned (.tuple #[.slice a n c,.int .i64 z])∧((xs.all nearM=true∧z=0∧n=xs.length∧Sl w' a n xs∧n≤c∧c≤maxLen)∨(xs.all nearM=false∧z=5))∧Lv P w':=
 hc.mono fun _ _ ⟨a,n,c,z,h1,h2,h3⟩=>⟨a,n,c,z,h1,h2,⟨hs _ _ h.out h3⟩⟩
theorem rs_1 {a1 b1 a2 b2:Option Addr} {n1 c1 m1 d1 n2 c2 m2 d2:Nat} {l m:List Int} {es fs:List ByteArray} {W:World} (h1:Av W a1 n1 c1 b1 m1 d1 l es none):
 Calls Tryz.prog 101 #[.agg #[.slice a1 n1 c1,.slice b1 m1 d1],.agg #[.slice a2 n2 c2,.slice b2 m2 d2]] W (MEnd (none,1) W):=by
 have KV:=Lib.hid (fun w (hb:Below W.heap.size W w)=>VMay_av (h1.below hb))
 clear h1
 have h:=live2 W a1 n1 c1 b1 m1 d1 a2 n2 c2 b2 m2 d2
 go_enter Tryz.func101,Tryz.ntmps101
 have x1:=h.out.2.2.1.c0
 have y1:=h.out.2.2.1.c1
 go_wp2_with fail
 with_reducible refine(live h (KV.out _ h.out.2.2.2)).mono ?_
 clear h x1 y1
 rintro e w ⟨rfl,h⟩
 have y0:=h.out.1.c0
 have y3:=h.out.1.c1
 have f0:=h.out.1.f 0
 have f1:=h.out.1.f 1
 go_wp2_with fail
 have hR:=h.out.1.set none 0 0 none 0 0
 have r0:=hR.c0
 have r1:=hR.c1
 exact bodyPost_ret (v:=.tuple #[.agg #[.slice none 0 0,.slice none 0 0],.int .i64 1]) (by simp[results,Tryz.results101,go_sem,r0,r1]) rfl (mend_no h.out.1 h.out.2.2.2 (by omega))
theorem rs_2 {a1 b1 a2 b2:Option Addr} {n1 c1 m1 d1 n2 c2 m2 d2:Nat} {l m:List Int} {es fs:List ByteArray} {W:World} {q:Ar} (h1:Av W a1 n1 c1 b1 m1 d1 l es (some q)) (h2:Av W a2 n2 c2 b2 m2 d2 m fs none):
 Calls Tryz.prog 101 #[.agg #[.slice a1 n1 c1,.slice b1 m1 d1],.agg #[.slice a2 n2 c2,.slice b2 m2 d2]] W (MEnd (none,1) W):=by
 have KV:=Lib.hid (fun w (hb:Below W.heap.size W w)=>VMay_av (h1.below hb))
 have KU:=Lib.hid (fun w (hb:Below W.heap.size W w)=>VMay_av (h2.below hb))
 clear h1 h2
 have h:=live2 W a1 n1 c1 b1 m1 d1 a2 n2 c2 b2 m2 d2
 go_enter Tryz.func101,Tryz.ntmps101
 have x1:=h.out.2.2.1.c0
 have y1:=h.out.2.2.1.c1
 go_wp2_with fail
 with_reducible refine(live h (KV.out _ h.out.2.2.2)).mono ?_
 clear h x1 y1
 rintro e w ⟨rfl,h⟩
 have x2:=h.out.2.1.c0
 have y2:=h.out.2.1.c1
 go_wp2_with fail
 with_reducible refine(live h (KU.out _ h.out.2.2.2)).mono ?_
 clear h x2 y2
 rintro e w ⟨rfl,h⟩
 have y0:=h.out.1.c0
 have y3:=h.out.1.c1
 have f0:=h.out.1.f 0
 have f1:=h.out.1.f 1
 go_wp2_with fail
 have hR:=h.out.1.set none 0 0 none 0 0
 have r0:=hR.c0
 have r1:=hR.c1
 exact bodyPost_ret (v:=.tuple #[.agg #[.slice none 0 0,.slice none 0 0],.int .i64 1]) (by simp[results,Tryz.results101,go_sem,r0,r1]) rfl (mend_no h.out.1 h.out.2.2.2 (by omega))
theorem rs_3 {a1 b1 a2 b2:Option Addr} {n1 c1 m1 d1 n2 c2 m2 d2:Nat} {l m:List Int} {es fs:List ByteArray} {W:World} {q r:Ar} (h1:Av W a1 n1 c1 b1 m1 d1 l es (some q)) (h2:Av W a2 n2 c2 b2 m2 d2 m fs (some r)) (hn:1<n1):
 Calls Tryz.prog 101 #[.agg #[.slice a1 n1 c1,.slice b1 m1 d1],.agg #[.slice a2 n2 c2,.slice b2 m2 d2]] W (MEnd (none,3) W):=by
 have KV:=Lib.hid (fun w (hb:Below W.heap.size W w)=>VMay_av (h1.below hb))
 have KU:=Lib.hid (fun w (hb:Below W.heap.size W w)=>VMay_av (h2.below hb))
 have hn1:(1:Int)<(n1:Int):=by omega
 clear h1 h2 hn
 have h:=live2 W a1 n1 c1 b1 m1 d1 a2 n2 c2 b2 m2 d2
 go_enter Tryz.func101,Tryz.ntmps101
 have x1:=h.out.2.2.1.c0
 have y1:=h.out.2.2.1.c1
 go_wp2_with fail
 with_reducible refine(live h (KV.out _ h.out.2.2.2)).mono ?_
 clear h x1 y1
 rintro e w ⟨rfl,h⟩
 have x2:=h.out.2.1.c0
 have y2:=h.out.2.1.c1
 go_wp2_with fail
 with_reducible refine(live h (KU.out _ h.out.2.2.2)).mono ?_
 clear h x2 y2
 rintro e w ⟨rfl,h⟩
 have x1:=h.out.2.2.1.c0
 have y1:=h.out.2.2.1.c1
 have y0:=h.out.1.c0
 have y3:=h.out.1.c1
 have f0:=h.out.1.f 0
 have f1:=h.out.1.f 1
 go_wp2_with fail
 have hR:=h.out.1.set none 0 0 none 0 0
 have r0:=hR.c0
 have r1:=hR.c1
 exact bodyPost_ret (v:=.tuple #[.agg #[.slice none 0 0,.slice none 0 0],.int .i64 3]) (by simp[results,Tryz.results101,go_sem,r0,r1]) rfl (mend_no h.out.1 h.out.2.2.2 (by omega))
theorem rs_4 {a1 b1 a2 b2:Option Addr} {n1 c1 m1 d1 n2 c2 m2 d2:Nat} {l m:List Int} {es fs:List ByteArray} {W:World} {q r:Ar} (h1:Av W a1 n1 c1 b1 m1 d1 l es (some q)) (h2:Av W a2 n2 c2 b2 m2 d2 m fs (some r)) (hW:WT W) (hn:n1≤1) (hal:q.2.all nearM=false):
 Calls Tryz.prog 101 #[.agg #[.slice a1 n1 c1,.slice b1 m1 d1],.agg #[.slice a2 n2 c2,.slice b2 m2 d2]] W (MEnd (none,5) W):=by
 have KV:=Lib.hid (fun w (hb:Below W.heap.size W w)=>VMay_av (h1.below hb))
 have KU:=Lib.hid (fun w (hb:Below W.heap.size W w)=>VMay_av (h2.below hb))
 have hn1:¬((1:Int)<(n1:Int)):=by omega
 have KA:=Lib.hid (fun w (hb:Below W.heap.size W w)=>All_av (c:=c1) (d:=d1) (s:=l) w (by have:=h1.v;rw[h1.i.2.1]at this;exact this.below hb) h1.i.2.2.2 (by have:=h1.mlen.2.2;omega) (hW.below hb))
 have hal2:=Lib.hid hal
 clear h1 h2 hW hn hal
 have h:=live2 W a1 n1 c1 b1 m1 d1 a2 n2 c2 b2 m2 d2
 go_enter Tryz.func101,Tryz.ntmps101
 have x1:=h.out.2.2.1.c0
 have y1:=h.out.2.2.1.c1
 go_wp2_with fail
 with_reducible refine(live h (KV.out _ h.out.2.2.2)).mono ?_
 clear h x1 y1
 rintro e w ⟨rfl,h⟩
 have x2:=h.out.2.1.c0
 have y2:=h.out.2.1.c1
 go_wp2_with fail
 with_reducible refine(live h (KU.out _ h.out.2.2.2)).mono ?_
 clear h x2 y2
 rintro e w ⟨rfl,h⟩
 have x1:=h.out.2.2.1.c0
 have y1:=h.out.2.2.1.c1
 go_wp2_with fail
 refine(live_al h (KA.out _ h.out.2.2.2)).mono ?_
 clear h x1 y1
 rintro e w ⟨aa,na,ca,z,rfl,hz,h⟩
 have hz5:z=5:=by
  rcases hz with⟨g,_⟩|⟨_,g⟩
  · rw[hal2.out]at g;cases g
  · exact g
 subst hz5
 clear hz
 have y0:=h.out.1.c0
 have y3:=h.out.1.c1
 have f0:=h.out.1.f 0
 have f1:=h.out.1.f 1
 go_wp2_with fail
 have hR:=h.out.1.set none 0 0 none 0 0
 have r0:=hR.c0
 have r1:=hR.c1
 exact bodyPost_ret (v:=.tuple #[.agg #[.slice none 0 0,.slice none 0 0],.int .i64 5]) (by simp[results,Tryz.results101,go_sem,r0,r1]) rfl (mend_no h.out.1 h.out.2.2.2 (by omega))
theorem rs_5 {a1 b1 a2 b2:Option Addr} {n1 c1 m1 d1 n2 c2 m2 d2:Nat} {l m:List Int} {es fs:List ByteArray} {W:World} {q r:Ar} (h1:Av W a1 n1 c1 b1 m1 d1 l es (some q)) (h2:Av W a2 n2 c2 b2 m2 d2 m fs (some r)) (hW:WT W) (hn:n1≤1) (hal:q.2.all nearM=true) (hz:szE q.2≠0):
 Calls Tryz.prog 101 #[.agg #[.slice a1 n1 c1,.slice b1 m1 d1],.agg #[.slice a2 n2 c2,.slice b2 m2 d2]] W (MEnd (none,szE q.2) W):=by
 have KV:=Lib.hid (fun w (hb:Below W.heap.size W w)=>VMay_av (h1.below hb))
 have KU:=Lib.hid (fun w (hb:Below W.heap.size W w)=>VMay_av (h2.below hb))
 have hn1:¬((1:Int)<(n1:Int)):=by omega
 have KA:=Lib.hid (fun w (hb:Below W.heap.size W w)=>All_av (c:=c1) (d:=d1) (s:=l) w (by have:=h1.v;rw[h1.i.2.1]at this;exact this.below hb) h1.i.2.2.2 (by have:=h1.mlen.2.2;omega) (hW.below hb))
 have hal2:=Lib.hid hal
 have KZ:=Lib.hid (fun w a n c (hs:Sl w a n q.2)=>Size_is a n c q.2 w hs)
 unfold SizeIs at KZ
 rw[szV_zero hz]at KZ
 generalize szE q.2=E at*
 have hE:(E != 0)=true:=by simpa using hz
 clear h1 h2 hW hn hal hz
 have h:=live2 W a1 n1 c1 b1 m1 d1 a2 n2 c2 b2 m2 d2
 go_enter Tryz.func101,Tryz.ntmps101
 have x1:=h.out.2.2.1.c0
 have y1:=h.out.2.2.1.c1
 go_wp2_with fail
 with_reducible refine(live h (KV.out _ h.out.2.2.2)).mono ?_
 clear h x1 y1
 rintro e w ⟨rfl,h⟩
 have x2:=h.out.2.1.c0
 have y2:=h.out.2.1.c1
 go_wp2_with fail
 with_reducible refine(live h (KU.out _ h.out.2.2.2)).mono ?_
 clear h x2 y2
 rintro e w ⟨rfl,h⟩
 have x1:=h.out.2.2.1.c0
 have y1:=h.out.2.2.1.c1
 go_wp2_with fail
 refine(live_al h (KA.out _ h.out.2.2.2)).mono ?_
 clear h x1 y1
 rintro e w ⟨aa,na,ca,z,rfl,hz,h⟩
 obtain⟨hz5,hna,hsa,hca,hcm⟩:z=0∧na=q.2.length∧Sl w aa na q.2∧na≤ca∧ca≤maxLen:=by
  rcases hz with⟨_,g1,g2,g3,g4,g5⟩|⟨g,_⟩
  · exact⟨g1,g2,g3,g4,g5⟩
  · rw[hal2.out]at g;cases g
 subst hz5
 have HS:=Lib.hid (And.intro hna (And.intro hsa (And.intro hca hcm)))
 clear hz hna hsa hca hcm
 go_wp2_with fail
 refine(KZ.out _ _ _ _ HS.out.2.1).mono ?_
 rintro e w9 ⟨rfl,rfl⟩
 have y0:=h.out.1.c0
 have y3:=h.out.1.c1
 have f0:=h.out.1.f 0
 have f1:=h.out.1.f 1
 go_wp2_with fail
 have hR:=h.out.1.set none 0 0 none 0 0
 have r0:=hR.c0
 have r1:=hR.c1
 exact bodyPost_ret (v:=.tuple #[.agg #[.slice none 0 0,.slice none 0 0],.int .i64 E]) (by simp[results,Tryz.results101,go_sem,r0,r1]) rfl (mend_no h.out.1 h.out.2.2.2 (by omega))
theorem rs_6 {a1 b1 a2 b2:Option Addr} {n1 c1 m1 d1 n2 c2 m2 d2:Nat} {l m:List Int} {es fs:List ByteArray} {W:World} {q r:Ar} (h1:Av W a1 n1 c1 b1 m1 d1 l es (some q)) (h2:Av W a2 n2 c2 b2 m2 d2 m fs (some r)) (hW:WT W) (hn:n1≤1) (hal:q.2.all nearM=true) (hz:szE q.2=0) (hpn:pr q.2≠0) (he:r.2=[]):
 Calls Tryz.prog 101 #[.agg #[.slice a1 n1 c1,.slice b1 m1 d1],.agg #[.slice a2 n2 c2,.slice b2 m2 d2]] W (MEnd (none,5) W):=by
 have KV:=Lib.hid (fun w (hb:Below W.heap.size W w)=>VMay_av (h1.below hb))
 have KU:=Lib.hid (fun w (hb:Below W.heap.size W w)=>VMay_av (h2.below hb))
 have hn1:¬((1:Int)<(n1:Int)):=by omega
 have KA:=Lib.hid (fun w (hb:Below W.heap.size W w)=>All_av (c:=c1) (d:=d1) (s:=l) w (by have:=h1.v;rw[h1.i.2.1]at this;exact this.below hb) h1.i.2.2.2 (by have:=h1.mlen.2.2;omega) (hW.below hb))
 have hal2:=Lib.hid hal
 have KZ:=Lib.hid (fun w a n c (hs:Sl w a n q.2)=>Size_is a n c q.2 w hs)
 unfold SizeIs at KZ
 rw[szV_pr hz,hz]at KZ
 have hp0:=(may_pr hz).1
 generalize pr q.2=p at*
 have hp:(0:Int)<p:=by omega
 have hm:(m2:Int)=0:=by have:=h2.mlen.1;rw[he]at this;simp at this;omega
 clear h1 h2 hW hn hal hz hp0 hpn he
 have h:=live2 W a1 n1 c1 b1 m1 d1 a2 n2 c2 b2 m2 d2
 go_enter Tryz.func101,Tryz.ntmps101
 have x1:=h.out.2.2.1.c0
 have y1:=h.out.2.2.1.c1
 go_wp2_with fail
 with_reducible refine(live h (KV.out _ h.out.2.2.2)).mono ?_
 clear h x1 y1
 rintro e w ⟨rfl,h⟩
 have x2:=h.out.2.1.c0
 have y2:=h.out.2.1.c1
 go_wp2_with fail
 with_reducible refine(live h (KU.out _ h.out.2.2.2)).mono ?_
 clear h x2 y2
 rintro e w ⟨rfl,h⟩
 have x1:=h.out.2.2.1.c0
 have y1:=h.out.2.2.1.c1
 go_wp2_with fail
 refine(live_al h (KA.out _ h.out.2.2.2)).mono ?_
 clear h x1 y1
 rintro e w ⟨aa,na,ca,z,rfl,hz,h⟩
 obtain⟨hz5,hna,hsa,hca,hcm⟩:z=0∧na=q.2.length∧Sl w aa na q.2∧na≤ca∧ca≤maxLen:=by
  rcases hz with⟨_,g1,g2,g3,g4,g5⟩|⟨g,_⟩
  · exact⟨g1,g2,g3,g4,g5⟩
  · rw[hal2.out]at g;cases g
 subst hz5
 have HS:=Lib.hid (And.intro hna (And.intro hsa (And.intro hca hcm)))
 clear hz hna hsa hca hcm
 have x2:=h.out.2.1.c0
 have y2:=h.out.2.1.c1
 go_wp2_with fail
 refine(KZ.out _ _ _ _ HS.out.2.1).mono ?_
 rintro e w9 ⟨rfl,rfl⟩
 have y0:=h.out.1.c0
 have y3:=h.out.1.c1
 have f0:=h.out.1.f 0
 have f1:=h.out.1.f 1
 go_wp2_with fail
 have hR:=h.out.1.set none 0 0 none 0 0
 have r0:=hR.c0
 have r1:=hR.c1
 exact bodyPost_ret (v:=.tuple #[.agg #[.slice none 0 0,.slice none 0 0],.int .i64 5]) (by simp[results,Tryz.results101,go_sem,r0,r1]) rfl (mend_no h.out.1 h.out.2.2.2 (by omega))
theorem rs_7 {a1 b1 a2 b2:Option Addr} {n1 c1 m1 d1 n2 c2 m2 d2:Nat} {l m:List Int} {es fs:List ByteArray} {W:World} {q r:Ar} (h1:Av W a1 n1 c1 b1 m1 d1 l es (some q)) (h2:Av W a2 n2 c2 b2 m2 d2 m fs (some r)) (hW:WT W) (hn:n1≤1) (hal:q.2.all nearM=true) (hz:szE q.2=0) (h0:¬(pr q.2≠0∧r.2=[])):
 Calls Tryz.prog 101 #[.agg #[.slice a1 n1 c1,.slice b1 m1 d1],.agg #[.slice a2 n2 c2,.slice b2 m2 d2]] W (MEnd (some (q.2,cyM r.2 (pr q.2).toNat),0) W):=by
 have KV:=Lib.hid (fun w (hb:Below W.heap.size W w)=>VMay_av (h1.below hb))
 have KU:=Lib.hid (fun w (hb:Below W.heap.size W w)=>VMay_av (h2.below hb))
 have hn1:¬((1:Int)<(n1:Int)):=by omega
 have KA:=Lib.hid (fun w (hb:Below W.heap.size W w)=>All_av (c:=c1) (d:=d1) (s:=l) w (by have:=h1.v;rw[h1.i.2.1]at this;exact this.below hb) h1.i.2.2.2 (by have:=h1.mlen.2.2;omega) (hW.below hb))
 have hal2:=Lib.hid hal
 have KZ:=Lib.hid (fun w a n c (hs:Sl w a n q.2)=>Size_is a n c q.2 w hs)
 unfold SizeIs at KZ
 rw[szV_pr hz,hz]at KZ
 have hp0:=may_pr hz
 have HR:=Lib.hid (rs_rok hz h2.i.rok h0)
 obtain⟨z,hzz⟩:∃z:Nat,z=(pr q.2).toNat:=⟨_,rfl⟩
 have hpz:pr q.2=(z:Int):=by omega
 have hz4:z≤4096:=by omega
 rw[hpz]at KZ
 rw[←hzz]at HR ⊢
 obtain⟨hm1,hmp,hm4⟩:=h2.mlen
 clear hmp
 have hmd:=h2.c.md
 have hzm:z=0∨0<m2:=by
  rcases Nat.eq_zero_or_pos z with g|g
  · exact .inl g
  · refine .inr ?_
    rcases Nat.eq_zero_or_pos m2 with g2|g2
    · exact absurd ⟨by omega,List.length_eq_zero_iff.1 (hm1.symm.trans g2)⟩ h0
    · exact g2
 have KT:=Lib.hid (fun w (hb:Below W.heap.size W w)=>(h2.v.t.below hb:St w b2 m2 fs))
 have HE:=Lib.hid (And.intro h2.i.2.1 hm1)
 clear h1 h2 hW hn hal hz h0 hp0 hpz hzz hm1
 have h:=live2 W a1 n1 c1 b1 m1 d1 a2 n2 c2 b2 m2 d2
 go_enter Tryz.func101,Tryz.ntmps101
 have x1:=h.out.2.2.1.c0
 have y1:=h.out.2.2.1.c1
 go_wp2_with fail
 with_reducible refine(live h (KV.out _ h.out.2.2.2)).mono ?_
 clear h x1 y1
 rintro e w ⟨rfl,h⟩
 have x2:=h.out.2.1.c0
 have y2:=h.out.2.1.c1
 go_wp2_with fail
 with_reducible refine(live h (KU.out _ h.out.2.2.2)).mono ?_
 clear h x2 y2
 rintro e w ⟨rfl,h⟩
 have x1:=h.out.2.2.1.c0
 have y1:=h.out.2.2.1.c1
 go_wp2_with fail
 refine(live_al h (KA.out _ h.out.2.2.2)).mono ?_
 clear h x1 y1
 rintro e w ⟨aa,na,ca,zz,rfl,hz,h⟩
 obtain⟨hz5,hna,hsa,hca,hcm⟩:zz=0∧na=q.2.length∧Sl w aa na q.2∧na≤ca∧ca≤maxLen:=by
  rcases hz with⟨_,g1,g2,g3,g4,g5⟩|⟨g,_⟩
  · exact⟨g1,g2,g3,g4,g5⟩
  · rw[hal2.out]at g;cases g
 subst hz5
 have HS:=Lib.hid (And.intro hna (And.intro hsa (And.intro hca hcm)))
 clear hz hna hsa hca hcm
 have x2:=h.out.2.1.c0
 have y2:=h.out.2.1.c1
 go_wp2_with fail
 refine(KZ.out _ _ _ _ HS.out.2.1).mono ?_
 rintro e w9 ⟨rfl,rfl⟩
 have hzc:((0:Int)<(z:Int)∧((m2:Int)==0)=false)∨¬((0:Int)<(z:Int)):=by
  by_cases g:0<z
  · exact .inl ⟨by omega,beq_eq_false_iff_ne.2 (by omega)⟩
  · exact .inr (by omega)
 rcases hzc with⟨hz1,hz2⟩|hz1
 ·
  go_wp2_with fail
  go_loopw [9] (fun ev wr=>∃k:Nat,k≤z∧(k=z∨m2∣k)∧wr.ownsRow w.heap.size 9 1 ev k (valsS ((cyM r.2 k).map S))∧Below w.heap.size w wr) (fun ev _=>z-lenV ev)
  case atStart=>exact⟨0,Nat.zero_le _,.inr (Nat.dvd_zero _),World.ownsRow_nil _ _ _ _,Below.refl _ _⟩
  case round=>
   obtain⟨k,hk,hdv,hown,hbq⟩:=hrel
   obtain⟨ae,ce,rfl⟩:=own_form hown
   clear x2 y2
   have hr:=live_to h hbq
   by_cases hlt:k<z
   · have e2:(k:Int)<(z:Int):=by omega
     have x2:=hr.out.2.1.c0
     have y2:=hr.out.2.1.c1
     have hd2:m2∣k:=by rcases hdv with g|g;exact absurd g (by omega);exact g
     obtain⟨u,hu⟩:∃u,u=z-k:=⟨_,rfl⟩
     obtain⟨t,ht⟩:∃t,t=min u m2:=⟨_,rfl⟩
     have hw:IntKind.i64.wrap ((z:Int)-(k:Int))=(u:Int):=by rw[show(z:Int)-(k:Int)=(u:Int)by omega];exact IntWalk.i64_in _ (by omega)
     have hmin:min (u:Int) (m2:Int)=(t:Int):=by omega
     have hstep:=cy_step (es:=r.2) (k:=k) (t:=t) (by rw[←HE.out.2];exact hd2) (by rw[←HE.out.2];omega)
     have KQ:Hid (∀w,Calls Tryz.prog 144 #[.slice b2 m2 d2,.int .i64 0,.int .i64 t] w fun e w'=>e=.returned (.slice (cutA b2 0 t) t t)∧w=w'):=Lib.hid fun w=>CutS_is b2 m2 d2 0 t w (Nat.zero_le _) (by omega)
     have hst:St wr (cutA b2 0 t) t ((r.2.take t).map S):=by
      have:=(KT.out wr hr.out.2.2.2).cut (f:=0) (t:=t) (Nat.zero_le _) (by omega)
      rw[HE.out.1,Nat.sub_zero,List.drop_zero,←List.map_take]at this
      exact this
     have hr2:=Lib.hid hst.rd
     have ho2:=Lib.hid hown
     have hkt:k+t≤z:=by omega
     have hdv2:k+t=z∨m2∣k+t:=by
      rcases Nat.le_total u m2 with g|g
      · exact .inl (by omega)
      · refine .inr ?_
        rw[show t=m2 by omega]
        exact Nat.dvd_add hd2 (Nat.dvd_refl _)
     have ht0:0<t:=by omega
     have HD:=Lib.hid (And.intro hdv2 hstep)
     have hbs:=hbq.size
     clear hst hown hdv hdv2 hd2 hstep hu ht
     go_wp2_with fail
     with_reducible refine(KQ.out _).mono ?_
     rintro e w2 ⟨rfl,rfl⟩
     go_wp2_with (at_builtin;refine wpList_append_rd rfl (.tmp 55) (.tmp 66) 23 rfl w.heap.size 9 (.string ⟨#[]⟩) 16 Tryz.underlying23 infoStr rfl (by decide) _ k (valsS ((cyM r.2 k).map S)) rfl ho2.out _ t t (valsS ((r.2.take t).map S)) rfl hr2.out (valsS_one _) (by omega) hbs ?_;intro av' cv' w3 hown3 hg3)
     have hb4:Below w.heap.size w w3:=hbq.trans (grown_below' hg3 (fun g' hg'=>(ho2.out.lt g' hg').1) hbs)
     have hown4:w3.ownsRow w.heap.size 9 1 (.slice av' (k+t) cv') (k+t) (valsS ((cyM r.2 (k+t)).map S)):=by
      rw[HD.out.2,List.map_append,←valsS_add]
      exact hown3
     clear hown3 ho2 hr2 hg3 x2 y2 hr
     go_wp2_with fail
     go_roundw
     case rel=>
      exact⟨k+t,hkt,HD.out.1,hown4,hb4⟩
     case measure=>simp[lenV];omega
   · have e2:¬(k:Int)<(z:Int):=by omega
     obtain rfl:k=z:=by omega
     replace h:=hr
     have hsa:=HS.out.2.1.below hbq
     have HO:=Lib.hid (And.intro hown hsa)
     clear hr hown hdv hbq hsa
     have y0:=h.out.1.c0
     have y3:=h.out.1.c1
     have f0:=h.out.1.f 0
     have f1:=h.out.1.f 1
     go_wp2_with fail
     have hV:Vl wr aa na ae k (TS (some (q.2,cyM r.2 k))).1 (TS (some (q.2,cyM r.2 k))).2:=⟨HO.out.2,own_st HO.out.1,by omega⟩
     have hR:=h.out.1.set aa na ca ae k ce
     have r0:=hR.c0
     have r1:=hR.c1
     exact bodyPost_ret (v:=.tuple #[.agg #[.slice aa na ca,.slice ae k ce],.int .i64 0]) (by simp[results,Tryz.results101,go_sem,r0,r1]) rfl (mend_box (r:=_) h.out.1 h.out.2.2.2 (by omega) hV ⟨HS.out.2.2.1,HS.out.2.2.2,(own_caps HO.out.1).1,(own_caps HO.out.1).2⟩ HR.out)
 ·
  go_wp2_with fail
  go_loopw [9] (fun ev wr=>∃k:Nat,k≤z∧(k=z∨m2∣k)∧wr.ownsRow w.heap.size 9 1 ev k (valsS ((cyM r.2 k).map S))∧Below w.heap.size w wr) (fun ev _=>z-lenV ev)
  case atStart=>exact⟨0,Nat.zero_le _,.inr (Nat.dvd_zero _),World.ownsRow_nil _ _ _ _,Below.refl _ _⟩
  case round=>
   obtain⟨k,hk,hdv,hown,hbq⟩:=hrel
   obtain⟨ae,ce,rfl⟩:=own_form hown
   clear x2 y2
   have hr:=live_to h hbq
   by_cases hlt:k<z
   · exact absurd hlt (by omega)
   · have e2:¬(k:Int)<(z:Int):=by omega
     obtain rfl:k=z:=by omega
     replace h:=hr
     have hsa:=HS.out.2.1.below hbq
     have HO:=Lib.hid (And.intro hown hsa)
     clear hr hown hdv hbq hsa
     have y0:=h.out.1.c0
     have y3:=h.out.1.c1
     have f0:=h.out.1.f 0
     have f1:=h.out.1.f 1
     go_wp2_with fail
     have hV:Vl wr aa na ae k (TS (some (q.2,cyM r.2 k))).1 (TS (some (q.2,cyM r.2 k))).2:=⟨HO.out.2,own_st HO.out.1,by omega⟩
     have hR:=h.out.1.set aa na ca ae k ce
     have r0:=hR.c0
     have r1:=hR.c1
     exact bodyPost_ret (v:=.tuple #[.agg #[.slice aa na ca,.slice ae k ce],.int .i64 0]) (by simp[results,Tryz.results101,go_sem,r0,r1]) rfl (mend_box (r:=_) h.out.1 h.out.2.2.2 (by omega) hV ⟨HS.out.2.2.1,HS.out.2.2.2,(own_caps HO.out.1).1,(own_caps HO.out.1).2⟩ HR.out)
theorem MReshape_is {a1 b1 a2 b2:Option Addr} {n1 c1 m1 d1 n2 c2 m2 d2:Nat} {l m:List Int} {es fs:List ByteArray} {W:World} {o p:Option Ar} (h1:Av W a1 n1 c1 b1 m1 d1 l es o) (h2:Av W a2 n2 c2 b2 m2 d2 m fs p) (hW:WT W):Calls Tryz.prog 101 #[.agg #[.slice a1 n1 c1,.slice b1 m1 d1],.agg #[.slice a2 n2 c2,.slice b2 m2 d2]] W (MEnd (rsM o p) W):=by
 cases o with
 |none=>exact rs_1 (m:=m) (fs:=fs) h1
 |some q=>
 cases p with
 |none=>exact rs_2 h1 h2
 |some r=>
 have hl:q.1.length=n1:=by rw[h1.fst];exact h1.v.s.1
 by_cases hn:1<n1
 · have e:rsM (some q) (some r)=(none,3):=by unfold rsM;dsimp only;rw[if_pos (by omega)]
   rw[e];exact rs_3 h1 h2 hn
 · have hn':¬(1<q.1.length):=by omega
   cases hal:q.2.all nearM
   · have e:rsM (some q) (some r)=(none,5):=by unfold rsM;dsimp only;rw[if_neg hn',if_pos hal]
     rw[e];exact rs_4 h1 h2 hW (by omega) hal
   · by_cases hz:szE q.2=0
     · by_cases h0:pr q.2≠0∧r.2=[]
       · have e:rsM (some q) (some r)=(none,5):=by unfold rsM;dsimp only;rw[if_neg hn',if_neg (by rw[hal];simp),if_neg (fun h=>h hz),if_pos h0]
         rw[e];exact rs_6 h1 h2 hW (by omega) hal hz h0.1 h0.2
       · have e:rsM (some q) (some r)=(some (q.2,cyM r.2 (pr q.2).toNat),0):=by unfold rsM;dsimp only;rw[if_neg hn',if_neg (by rw[hal];simp),if_neg (fun h=>h hz),if_neg h0]
         rw[e];exact rs_7 h1 h2 hW (by omega) hal hz h0
     · have e:rsM (some q) (some r)=(none,szE q.2):=by unfold rsM;dsimp only;rw[if_neg hn',if_neg (by rw[hal];simp),if_pos hz]
       rw[e];exact rs_5 h1 h2 hW (by omega) hal hz
end Go.Proofs.YtbijncndjlmmdaaGreatDoor

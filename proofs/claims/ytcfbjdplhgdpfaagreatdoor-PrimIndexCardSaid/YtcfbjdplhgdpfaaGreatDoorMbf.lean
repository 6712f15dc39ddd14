import Derived.Test.YtcfbjdplhgdpfaaGreatDoorMbe
set_option maxHeartbeats 3200000
set_option maxRecDepth 100000
namespace Go.Proofs.YtcfbjdplhgdpfaaGreatDoor
set_option linter.unusedVariables false
set_option linter.unusedSimpArgs false
open Go.RowKit
theorem valsS_add (l k:List ByteArray):valsS l++valsS k=valsS (l++k):=by unfold valsS;rw[List.map_append]
theorem live_ci {P:World→Prop} {w:World} {f:FuncId} {args:Array Value} {n:Nat} {l:List Int} (h:Lv P w) (hc:Calls Tryz.prog f args w (ClI n l w))
 (hs:Stb P:=by repeat' (first|exact Stb.bel _|exact Stb.bx|exact Stb.vl|refine Stb.and ?_ ?_|exact Stb.triv)):
 Calls Tryz.prog f args w fun e w'=>∃a c,e=.returned (.slice a n c)∧Lv P w'∧OwI w w' a n c l∧Below w.heap.size w w':=
 hc.mono fun _ _ ⟨a,c,h1,h2,h3⟩=>⟨a,c,h1,⟨hs _ _ h.out h3⟩,h2,h3⟩
section
variable {α:Type}
theorem its_none (k:Nat):∀l:List Nat,its ([]:List α) k l=[]
 |[]=>rfl
 |i::r=>by show _++its [] k r=[];rw[its_none k r];simp
def rvJ (es:List α) (k N j:Nat):List α:=its es k (List.range' j (N-j)).reverse
theorem rvJ_start (es:List α) (k N:Nat):rvJ es k N N=[]:=by unfold rvJ;rw[Nat.sub_self];rfl
theorem rvJ_step (es:List α) (k:Nat) {N i:Nat} (h:i<N):rvJ es k N i=rvJ es k N (i+1)++(es.drop (i*k)).take k:=by
 unfold rvJ
 rw[show N-i=(N-(i+1))+1 by omega,List.range'_succ,List.reverse_cons,its_append]
 show _++((es.drop (i*k)).take k++its es k [])=_
 rw[show its es k []=([]:List α)from rfl,List.append_nil]
theorem rvJ_len {es:List α} {k N:Nat} (he:es.length=N*k) (j:Nat) (h:j≤N):(rvJ es k N j).length=(N-j)*k:=by
 unfold rvJ
 rw[its_length he (fun i hi=>by have:=List.mem_range'_1.1 (List.mem_reverse.1 hi);omega),List.length_reverse,List.length_range']
theorem rvJ_end (es:List α) (k N:Nat):rvJ es k N 0=rvs_ es k N:=by unfold rvJ rvs_;rw[Nat.sub_zero,List.range_eq_range']
theorem rvM_is {l:List Int} {es:List α} (h:Fits l es):rvM l es=rvJ es (iS l es.length) (mN l) 0:=by
 rw[rvJ_end]
 unfold rvM rvs_
 by_cases h0:es=[]
 · rw[if_pos (.inr h0),h0,its_none]
 · have hk:iS l es.length=kI l:=if_neg fun e=>h0 (List.length_eq_zero_iff.1 e)
   rw[hk]
   by_cases hl:l=[]
   · subst hl
     rw[if_pos (.inl rfl)]
     have he:=h.all.1
     have e1:es.length=1:=he
     show es=(es.drop (0*1)).take 1++[]
     rw[List.append_nil,Nat.zero_mul,List.drop_zero,List.take_of_length_le (by omega)]
   · rw[if_neg (fun g=>g.elim hl h0),mN_nI hl]
end
theorem its_map (es:List Int) (k:Nat):∀l:List Nat,its (es.map S) k l=(its es k l).map S
 |[]=>rfl
 |i::r=>by
  show _++its (es.map S) k r=(_++its es k r).map S
  rw[its_map es k r,List.map_append,List.map_take,List.map_drop]
theorem rvM_map (l xs:List Int):rvM l (xs.map S)=(rvM l xs).map S:=by
 unfold rvM
 by_cases h:l=[]∨xs=[]
 · rw[if_pos h,if_pos (by rcases h with h|h;exact .inl h;exact .inr (by rw[h];rfl))]
 · rw[if_neg h,if_neg (by rintro(g|g);exact h (.inl g);exact h (.inr (List.map_eq_nil_iff.1 g)))]
   exact its_map _ _ _
theorem its_sub {α:Type} {es:List α} {k:Nat}:∀{l:List Nat} {x:α},x∈its es k l→x∈es
 |[],_,h=>by cases h
 |i::r,x,h=>by
  rcases List.mem_append.1 h with h|h
  · exact List.mem_of_mem_drop (List.mem_of_mem_take h)
  · exact its_sub h
theorem rv_rok {q:Ar} (h:Rok (some q)) (hf:Fits q.1 q.2):Rok (some (q.1,rvM q.1 q.2)):=by
 refine⟨h.1,by rw[show(q.1,rvM q.1 q.2).2=rvM q.1 q.2 from rfl,rvM_length hf];exact h.2.1,fun x hx=>h.2.2 x ?_⟩
 have hx:x∈rvM q.1 q.2:=hx
 unfold rvM at hx
 split at hx
 · exact hx
 · exact its_sub hx
theorem re_no {a1 b1:Option Addr} {n1 c1 m1 d1:Nat} {l:List Int} {es:List ByteArray} {W:World} (h1:Av W a1 n1 c1 b1 m1 d1 l es none):
 Calls Tryz.prog 50 #[.agg #[.slice a1 n1 c1,.slice b1 m1 d1]] W (MEnd (none,1) W):=by
 have KV:=Lib.hid (fun w (hb:Below W.heap.size W w)=>VMay_av (h1.below hb))
 clear h1
 have h:=live1 W a1 n1 c1 b1 m1 d1
 go_enter Tryz.func50,Tryz.ntmps50
 have x1:=h.out.2.1.c0
 have y1:=h.out.2.1.c1
 go_wp2_with fail
 with_reducible refine(live h (KV.out _ h.out.2.2)).mono ?_
 clear h x1 y1
 rintro e w ⟨rfl,h⟩
 have y0:=h.out.1.c0
 have y3:=h.out.1.c1
 have f0:=h.out.1.f 0
 have f1:=h.out.1.f 1
 go_wp2_with fail
 have hR:=h.out.1.set none 0 0 none 0 0
 have r0:=hR.c0
 have r1:=hR.c1
 exact bodyPost_ret (v:=.tuple #[.agg #[.slice none 0 0,.slice none 0 0],.int .i64 1]) (by simp[results,Tryz.results50,go_sem,r0,r1]) rfl (mend_no h.out.1 h.out.2.2 (by omega))
theorem re_yes {a1 b1:Option Addr} {n1 c1 m1 d1:Nat} {l:List Int} {es:List ByteArray} {W:World} {q:Ar} (h1:Av W a1 n1 c1 b1 m1 d1 l es (some q)):
 Calls Tryz.prog 50 #[.agg #[.slice a1 n1 c1,.slice b1 m1 d1]] W (MEnd (some (q.1,rvM q.1 q.2),0) W):=by
 have KV:=Lib.hid (fun w (hb:Below W.heap.size W w)=>VMay_av (h1.below hb))
 obtain⟨i1,i2,i3,i4⟩:=h1.items
 have hm4:=h1.mlen.2.2
 have hmd:=h1.c.md
 have hn3:=h1.n3
 have hlen:=h1.v.t.1
 have hR1:rvM q.1 es=rvJ es (iS l m1) (mN l) 0:=by
  have hf:=h1.fits
  have e:Fits l es:=⟨by rw[←h1.fst];exact hf.1,by rw[hlen];exact h1.mlen.2.1⟩
  have e2:=rvM_is e
  rw[hlen]at e2
  rw[h1.fst]
  exact e2
 have hEs:(TS (some (q.1,rvM q.1 q.2))).2=rvJ es (iS l m1) (mN l) 0:=by
  rw[←hR1,h1.i.2.1]
  exact(rvM_map _ _).symm
 have hSh:(TS (some (q.1,rvM q.1 q.2))).1=l:=h1.fst
 have KE:=Lib.hid (And.intro hEs hSh)
 have KS:=Lib.hid (fun w (hb:Below W.heap.size W w)=>ISize_is (h1.below hb))
 have KC:=Lib.hid (fun w (hb:Below W.heap.size W w)=>Clone_o a1 n1 c1 l w (h1.v.s.below hb) (by omega))
 have KT:=Lib.hid (fun w (hb:Below W.heap.size W w)=>(h1.v.t.below hb:St w b1 m1 es))
 have HR:=Lib.hid (rv_rok h1.i.rok h1.fits)
 generalize iS l m1=k at*
 generalize mN l=N at*
 have HI:=Lib.hid (And.intro i4 (rvJ_len (es:=es) (k:=k) (N:=N) (by omega)))
 clear h1 hR1 hEs hSh i1 i2 i3 i4 hlen
 have h:=live1 W a1 n1 c1 b1 m1 d1
 go_enter Tryz.func50,Tryz.ntmps50
 have x1:=h.out.2.1.c0
 have y1:=h.out.2.1.c1
 go_wp2_with fail
 with_reducible refine(live h (KV.out _ h.out.2.2)).mono ?_
 clear h x1 y1
 rintro e w ⟨rfl,h⟩
 have x1:=h.out.2.1.c0
 have y1:=h.out.2.1.c1
 go_wp2_with fail
 with_reducible refine(live h (KS.out _ h.out.2.2)).mono ?_
 clear h x1 y1
 rintro e w ⟨rfl,h⟩
 have x1:=h.out.2.1.c0
 have y1:=h.out.2.1.c1
 go_wp2_with fail
 go_loopw [5,6] (fun ev i wr=>∃j:Nat,i=.int .i64 ((j*k:Nat):Int)∧j≤N∧wr.ownsRow w.heap.size 9 1 ev (rvJ es k N j).length (valsS (rvJ es k N j))∧Below w.heap.size w wr) (fun _ i _=>(intOf i).toNat)
 case atStart=>
  refine⟨N,by rw[←HI.out.1],Nat.le_refl _,?_,Below.refl _ _⟩
  rw[rvJ_start]
  exact World.ownsRow_nil _ _ _ _
 case round=>
  obtain⟨j,rfl,hj,hown,hbq⟩:=hrel
  clear x1 y1
  have hr:=live_to h hbq
  have x1:=hr.out.2.1.c0
  have y1:=hr.out.2.1.c1
  have hjm:j*k≤m1:=by have:=HI.out.1;have e:j*k≤N*k:=Nat.mul_le_mul_right _ hj;omega
  by_cases hlt:0<j*k
  · obtain⟨i,rfl⟩:∃i,j=i+1:=⟨j-1,by have:j≠0:=(by rintro rfl;simp at hlt);omega⟩
    obtain⟨o2,h2⟩:∃o2,o2=(i+1)*k:=⟨_,rfl⟩
    obtain⟨o1,h1⟩:∃o1,o1=i*k:=⟨_,rfl⟩
    have e12:o2=o1+k:=by rw[h2,h1,Nat.add_mul,Nat.one_mul]
    have hst:=rvJ_step es k (N:=N) (i:=i) (by omega)
    have hbound:(N-i)*k≤m1:=by have:=HI.out.1;have e:(N-i)*k≤N*k:=Nat.mul_le_mul_right _ (by omega);omega
    have hl2:=HI.out.2 i (by omega)
    rw[←h1]at hst
    rw[←h2]at hlt hjm ⊢
    have hk:o2-o1=k:=by omega
    have hk0:o1<o2:=by
     have:k≠0:=by rintro rfl;rw[h2,Nat.mul_zero]at hlt;omega
     omega
    obtain⟨L,hL⟩:∃L,L=rvJ es k N (i+1):=⟨_,rfl⟩
    rw[←hL]at hst hown
    replace hst:rvJ es k N i=L++(es.drop o1).take (o2-o1):=by rw[hk];exact hst
    have hes:=(KT.out wr hr.out.2.2).1
    have hLn:(rvJ es k N i).length=L.length+(o2-o1):=by
     rw[hst,List.length_append,List.length_take,List.length_drop,hes]
     omega
    have hlL:L.length+(o2-o1)≤4096:=by omega
    have e0:(0:Int)<(o2:Int):=by omega
    have hw:IntKind.i64.wrap ((o2:Int)-(k:Int))=(o1:Int):=by rw[show(o2:Int)-(k:Int)=(o1:Int)by omega];exact IntWalk.i64_in _ (by omega)
    have KQ:=Lib.hid (fun z=>CutS_is b1 m1 d1 o1 o2 z (by omega) (by omega))
    have hr2:=Lib.hid ((KT.out wr hr.out.2.2).cut (f:=o1) (t:=o2) (by omega) hjm).rd
    have ho2:=Lib.hid hown
    have HS:=Lib.hid (And.intro hst (And.intro h1 (And.intro h2 hLn)))
    have hbs:=hbq.size
    clear hown h1 h2 hst hl2 hL hLn hbound hk e12 hes
    go_wp2_with fail
    refine(KQ.out _).mono ?_
    rintro e w2 ⟨rfl,rfl⟩
    go_wp2_with (at_builtin;refine wpList_append_rd rfl (.tmp 21) (.tmp 28) 23 rfl w.heap.size 9 (.string ⟨#[]⟩) 16 Tryz.underlying23 infoStr rfl (by decide) _ L.length (valsS L) rfl ho2.out _ (o2-o1) (o2-o1) (valsS ((es.drop o1).take (o2-o1))) rfl hr2.out (valsS_one _) (by omega) hbs ?_;intro av' cv' w3 hown3 hg3)
    have hb4:Below w.heap.size w w3:=hbq.trans (grown_below' hg3 (fun g' hg'=>(ho2.out.lt g' hg').1) hbs)
    have hown4:w3.ownsRow w.heap.size 9 1 (.slice av' (L.length+(o2-o1)) cv') (rvJ es k N i).length (valsS (rvJ es k N i)):=by
     rw[HS.out.2.2.2,HS.out.1,←valsS_add]
     exact hown3
    clear hown3 ho2 hr2 hg3 x1 y1 hr
    go_wp2_with fail
    go_roundw
    case rel=>exact⟨i,by rw[←HS.out.2.1],by omega,hown4,hb4⟩
    case measure=>simp[intOf];omega
  · have hz:j*k=0:=by omega
    have hrv:rvJ es k N j=rvJ es k N 0:=by
     rcases Nat.mul_eq_zero.1 hz with h0|h0
     · rw[h0]
     · rw[List.eq_nil_of_length_eq_zero ((HI.out.2 j hj).trans (by rw[h0,Nat.mul_zero])),List.eq_nil_of_length_eq_zero ((HI.out.2 0 (Nat.zero_le _)).trans (by rw[h0,Nat.mul_zero]))]
    rw[hrv]at hown
    rw[hz]
    replace h:=hr
    obtain⟨R,hRR⟩:∃R,R=rvJ es k N 0:=⟨_,rfl⟩
    have hlR:R.length≤4096:=by rw[hRR,HI.out.2 0 (Nat.zero_le _),Nat.sub_zero,←HI.out.1];exact hm4
    rw[←hRR]at hown
    have HRR:=Lib.hid (And.intro hRR hlR)
    obtain⟨ae,ce,rfl⟩:=own_form hown
    have HO:=Lib.hid hown
    clear hRR hlR hrv hz hown hbq hr hlt hjm
    go_wp2_with fail
    refine(live_ci h (KC.out _ h.out.2.2)).mono ?_
    clear h x1 y1
    rintro e w5 ⟨aa,ca,rfl,h,ho,hb⟩
    have HO5:=Lib.hid (own_below HO.out hb)
    have HC:=Lib.hid ho
    clear ho hb HO
    have y0:=h.out.1.c0
    have y3:=h.out.1.c1
    have f0:=h.out.1.f 0
    have f1:=h.out.1.f 1
    go_wp2_with fail
    have hV:Vl w5 aa n1 ae R.length (TS (some (q.1,rvM q.1 q.2))).1 (TS (some (q.1,rvM q.1 q.2))).2:=by
     rw[KE.out.1,KE.out.2,←HRR.out.1]
     exact⟨HC.out.sl,own_st HO5.out,by have:=HRR.out.2;omega⟩
    have hR:=h.out.1.set aa n1 ca ae R.length ce
    have r0:=hR.c0
    have r1:=hR.c1
    exact bodyPost_ret (v:=.tuple #[.agg #[.slice aa n1 ca,.slice ae R.length ce],.int .i64 0]) (by simp[results,Tryz.results50,go_sem,r0,r1]) rfl (mend_box (r:=_) h.out.1 h.out.2.2 (by omega) hV ⟨HC.out.caps.1,HC.out.caps.2,(own_caps HO5.out).1,(own_caps HO5.out).2⟩ HR.out)
end Go.Proofs.YtcfbjdplhgdpfaaGreatDoor
namespace Go.Proofs.YtcfbjdplhgdpfaaGreatDoor
set_option linter.unusedVariables false
set_option linter.unusedSimpArgs false
open Go.RowKit
theorem flM_map (l xs:List Int):flM l (xs.map S)=(flM l xs).map S:=by
 unfold flM
 rw[List.map_filterMap,List.length_map]
 congr 1
 funext j
 rw[List.getElem?_map]
theorem flM_sub {α:Type} {l:List Int} {es:List α} {x:α} (h:x∈flM l es):x∈es:=by
 unfold flM at h
 obtain⟨j,_,hj⟩:=List.mem_filterMap.1 h
 exact List.mem_of_getElem? hj
theorem fl_rok {q:Ar} (h:Rok (some q)) (hf:Fits q.1 q.2):Rok (some (q.1.reverse,flM q.1 q.2)):=
 ⟨szE_may.2 hf.turned.1,hf.turned.2,fun x hx=>h.2.2 x (flM_sub hx)⟩
theorem fl_off {l:List Int} {es:List ByteArray} (hf:Fits l es) {k:Nat} (hk:k<es.length):
 plB l.reverse k=true∧plO l.reverse k=plL l.reverse k∧ofB l (plL l.reverse k).reverse=true∧
  ∃o:Nat,ofV l (plL l.reverse k).reverse=(o:Int)∧o<es.length∧(flM l es).getD k ByteArray.empty=es.getD o ByteArray.empty:=by
 have ht:=hf.turned
 have hp:0<pr l:=by have:=hf.2;omega
 have ha:=(hf.1.pos hp).turned
 obtain⟨h1,h2⟩:=plB_yes (szE_may.2 ht.1) (k:=(k:Int)) (by omega) (by rw[pr_reverse,←hf.2];omega)
 obtain⟨t1,t2⟩:=tno_range ha (k:Int)
 rw[pr_reverse,←hf.2]at t2
 have hin:=inL_turned ha (k:Int)
 rw[List.reverse_reverse]at hin
 have hb:ofB l (plL l.reverse k).reverse=true:=by
  unfold ofB
  rw[decide_eq_true (szE_may.2 hf.1),decide_eq_true (by rw[List.length_reverse,plL_length,List.length_reverse]),hin]
  rfl
 have hv:ofV l (plL l.reverse k).reverse=tno l.reverse k:=by
  unfold ofV
  rw[if_pos hb]
  unfold tno
  rw[List.reverse_reverse,List.length_reverse]
 refine⟨h1,h2,hb,(tno l.reverse k).toNat,by rw[hv];omega,by omega,?_⟩
 rw[List.getD_eq_getElem?_getD,List.getD_eq_getElem?_getD,(flM_at hf).2 k hk]
theorem fl_no {a1 b1:Option Addr} {n1 c1 m1 d1:Nat} {l:List Int} {es:List ByteArray} {W:World} (h1:Av W a1 n1 c1 b1 m1 d1 l es none):
 Calls Tryz.prog 51 #[.agg #[.slice a1 n1 c1,.slice b1 m1 d1]] W (MEnd (none,1) W):=by
 have KV:=Lib.hid (fun w (hb:Below W.heap.size W w)=>VMay_av (h1.below hb))
 clear h1
 have h:=live1 W a1 n1 c1 b1 m1 d1
 go_enter Tryz.func51,Tryz.ntmps51
 have x1:=h.out.2.1.c0
 have y1:=h.out.2.1.c1
 go_wp2_with fail
 with_reducible refine(live h (KV.out _ h.out.2.2)).mono ?_
 clear h x1 y1
 rintro e w ⟨rfl,h⟩
 have y0:=h.out.1.c0
 have y3:=h.out.1.c1
 have f0:=h.out.1.f 0
 have f1:=h.out.1.f 1
 go_wp2_with fail
 have hR:=h.out.1.set none 0 0 none 0 0
 have r0:=hR.c0
 have r1:=hR.c1
 exact bodyPost_ret (v:=.tuple #[.agg #[.slice none 0 0,.slice none 0 0],.int .i64 1]) (by simp[results,Tryz.results51,go_sem,r0,r1]) rfl (mend_no h.out.1 h.out.2.2 (by omega))
theorem fl_yes {a1 b1:Option Addr} {n1 c1 m1 d1:Nat} {l:List Int} {es:List ByteArray} {W:World} {q:Ar} (h1:Av W a1 n1 c1 b1 m1 d1 l es (some q)):
 Calls Tryz.prog 51 #[.agg #[.slice a1 n1 c1,.slice b1 m1 d1]] W (MEnd (some (q.1.reverse,flM q.1 q.2),0) W):=by
 have KV:=Lib.hid (fun w (hb:Below W.heap.size W w)=>VMay_av (h1.below hb))
 have hlen:=h1.v.t.1
 have hf:Fits l es:=by
  have hf:=h1.fits
  exact⟨by rw[←h1.fst];exact hf.1,by rw[hlen];exact h1.mlen.2.1⟩
 have hm4:=h1.mlen.2.2
 have hn3:=h1.n3
 have hnl:=h1.v.s.1
 have hEs:(TS (some (q.1.reverse,flM q.1 q.2))).2=flM l es:=by
  rw[←h1.fst,h1.i.2.1]
  exact(flM_map _ _).symm
 have hSh:(TS (some (q.1.reverse,flM q.1 q.2))).1=l.reverse:=by rw[←h1.fst];rfl
 have KE:=Lib.hid (And.intro hEs (And.intro hSh ((flM_at hf).1.trans hlen)))
 have KF:=Lib.hid (fun k (hk:k<m1)=>fl_off hf (k:=k) (by rw[hlen];exact hk))
 have KC:=Lib.hid (fun w (hb:Below W.heap.size W w)=>Clone_o a1 n1 c1 l w (h1.v.s.below hb) (by omega))
 have KT:=Lib.hid (fun w (hb:Below W.heap.size W w)=>h1.v.below hb)
 have HR:=Lib.hid (fl_rok h1.i.rok h1.fits)
 have HN:=Lib.hid hnl
 have HL:=Lib.hid hlen
 have hmk:=run_mks m1 (by omega)
 clear h1 hEs hSh hlen hf hnl
 have h:=live1 W a1 n1 c1 b1 m1 d1
 go_enter Tryz.func51,Tryz.ntmps51
 have x1:=h.out.2.1.c0
 have y1:=h.out.2.1.c1
 go_wp2_with fail
 with_reducible refine(live h (KV.out _ h.out.2.2)).mono ?_
 clear h x1 y1
 rintro e w ⟨rfl,h⟩
 have x1:=h.out.2.1.c0
 have y1:=h.out.2.1.c1
 go_wp2_with fail
 refine(KC.out _ h.out.2.2).mono ?_
 clear x1 y1
 rintro e w1 ⟨ta,tc,rfl,ho,hb⟩
 go_wp2_with fail
 refine(Reverse_o ho (by omega)).mono ?_
 rintro e w2 ⟨rfl,ho2,hg⟩
 have hb2:Below w.heap.size w w2:=hb.trans (grown_below' hg (fun g hg'=>(ho.lt g hg').1) hb.size)
 replace h:=live_to h hb2
 have HO:=Lib.hid ho2
 clear ho hb hg ho2 hb2 KC KV
 have x1:=h.out.2.1.c0
 have y1:=h.out.2.1.c1
 go_wp2_with fail
 have hR0:=Sr.made w2 m1
 have hbA:Below w2.heap.size w2 (w2.alloc (.cells (madeCells #[.string ⟨#[]⟩] m1) 9)):=(Below.refl _ _).alloc (Nat.le_refl _) _
 clear hmk x1 y1
 go_loopw [26] (fun i wr=>∃(k:Nat) (F:Nat→ByteArray),i=.int .i64 k∧k≤m1∧Sr wr w2.heap.size m1 F∧Hid (∀j,j<k→F j=(flM l es).getD j ByteArray.empty)∧Below w2.heap.size w2 wr) (fun i _=>m1-(intOf i).toNat)
 case atStart=>exact⟨0,_,rfl,by omega,hR0,Lib.hid (fun j hj=>by omega),hbA⟩
 case round=>
  obtain⟨k,F,rfl,hk,hRo,HF,hbq⟩:=hrel
  clear hR0 hbA
  have hr:=live_to h hbq
  by_cases hlt:k<m1
  · have e2:(k:Int)<(m1:Int):=by omega
    have HP:=Lib.hid (Place_ow ta n1 tc l.reverse (k:Int) wr (own_sl (own_below HO.out hbq)) (by omega))
    unfold PlOw PlOwn at HP
    obtain⟨q1,q2,q3,off,q4,q5,q6⟩:=KF.out k hlt
    rw[q1,q2]at HP
    rw[HL.out]at q5
    have hpl:(plL l.reverse (k:Int)).length=n1:=by rw[plL_length,List.length_reverse,HN.out]
    obtain⟨p,hp⟩:∃p,p=plL l.reverse (k:Int):=⟨_,rfl⟩
    rw[←hp]at HP q3 q4 hpl
    rw[hpl]at HP
    have hV:=KT.out wr hr.out.2.2
    obtain⟨bb,bo,rfl,hc⟩:=hV.t.2 (by omega)
    obtain⟨s,hs⟩:∃s,s=es.getD off ByteArray.empty:=⟨_,rfl⟩
    have hcs:=hc off q5
    rw[←hs]at hcs q6
    have HS:=Lib.hid (And.intro q6 (And.intro q3 q4))
    have HV:=Lib.hid hV.s
    have e3:(off:Int)<(m1:Int):=by omega
    have lc:bb<wr.heap.size:=World.block_lt_of_cell? wr _ hcs
    clear q1 q2 q3 q4 q5 q6 hp hpl hc hV hs
    go_wp2_with fail
    refine HP.out.mono ?_
    rintro e w4 ⟨pa,pc,rfl,hpo,hb4⟩
    have hpo':=hpo
    clear hpo
    go_wp2_with fail
    refine(Reverse_o hpo' (by omega)).mono ?_
    rintro e w5 ⟨rfl,hpo2,hg5⟩
    have hb5:Below wr.heap.size wr w5:=hb4.trans (grown_below' hg5 (fun g hg'=>(hpo'.lt g hg').1) hb4.size)
    have h5:=live_to hr hb5
    have x1:=h5.out.2.1.c0
    have y1:=h5.out.2.1.c1
    have HQ:=Offset_is a1 pa n1 c1 n1 pc l p.reverse w5 (HV.out.below hb5) (own_sl hpo2) (by omega)
    unfold OffIs at HQ
    rw[HS.out.2.1,HS.out.2.2]at HQ
    replace HQ:=Lib.hid HQ
    clear hpo' hg5 hb4 hpo2 h5
    go_wp2_with fail
    refine HQ.out.mono ?_
    rintro e w6 ⟨rfl,hd⟩
    have hb6:Below wr.heap.size wr w6:=hb5.trans (hd.below.mono hb5.size)
    clear x1 y1 HQ hd hb5
    have h6:=live_to hr hb6
    have x1:=h6.out.2.1.c0
    have y1:=h6.out.2.1.c1
    have hcs6:=(hb6.cell (p:=⟨bb,bo+off,none⟩) lc).trans hcs
    have hR6:=hRo.below hb6
    have y0:=hR6.cell (i:=k) hlt
    have f0:=hR6.frozen k
    have hR7:=hR6.set k s
    have hb7:Below w2.heap.size w2 w6:=hbq.trans (hb6.mono hbq.size)
    have hb8:=hb7.setCell (p:=⟨w2.heap.size,k,none⟩) (Nat.le_refl _) (.string s)
    have HF2:Hid (∀j,j<k+1→(fun j=>if j=k then s else F j) j=(flM l es).getD j ByteArray.empty):=Lib.hid fun j hj=>by
     show(if j=k then s else F j)=_
     by_cases hjk:j=k
     · rw[if_pos hjk,hjk,HS.out.1]
     · rw[if_neg hjk];exact HF.out j (by omega)
    clear hcs hRo hR6 hb6 hb7 h6 hbq hr
    go_wp2_with fail
    go_roundw
    case rel=>exact⟨k+1,_,by go_num,by omega,hR7,HF2,hb8⟩
    case measure=>simp[intOf];omega
  · have e2:¬(k:Int)<(m1:Int):=by omega
    obtain rfl:k=m1:=by omega
    replace h:=hr
    have HT:=Lib.hid (hRo.st KE.out.2.2 (fun j hj=>HF.out j hj))
    have HO2:=Lib.hid (own_below HO.out hbq)
    clear hr hRo hbq
    have y0:=h.out.1.c0
    have y3:=h.out.1.c1
    have f0:=h.out.1.f 0
    have f1:=h.out.1.f 1
    go_wp2_with fail
    have hV:Vl wr ta n1 (some ⟨w2.heap.size,0,none⟩) k (TS (some (q.1.reverse,flM q.1 q.2))).1 (TS (some (q.1.reverse,flM q.1 q.2))).2:=by
     rw[KE.out.1,KE.out.2.1]
     exact⟨own_sl HO2.out,HT.out,by omega⟩
    have hR:=h.out.1.set ta n1 tc (some ⟨w2.heap.size,0,none⟩) k k
    have r0:=hR.c0
    have r1:=hR.c1
    exact bodyPost_ret (v:=.tuple #[.agg #[.slice ta n1 tc,.slice (some ⟨w2.heap.size,0,none⟩) k k],.int .i64 0]) (by simp[results,Tryz.results51,go_sem,r0,r1]) rfl (mend_box (r:=_) h.out.1 h.out.2.2 (by omega) hV ⟨(own_caps HO2.out).1,(own_caps HO2.out).2,Nat.le_refl _,by unfold maxLen;omega⟩ HR.out)
theorem MReverse_is {a1 b1:Option Addr} {n1 c1 m1 d1:Nat} {l:List Int} {es:List ByteArray} {W:World} {o:Option Ar} (h1:Av W a1 n1 c1 b1 m1 d1 l es o):Calls Tryz.prog 50 #[.agg #[.slice a1 n1 c1,.slice b1 m1 d1]] W (MEnd (reM o) W):=by
 cases o with
 |none=>exact re_no h1
 |some q=>exact re_yes h1
theorem MFlip_is {a1 b1:Option Addr} {n1 c1 m1 d1:Nat} {l:List Int} {es:List ByteArray} {W:World} {o:Option Ar} (h1:Av W a1 n1 c1 b1 m1 d1 l es o):Calls Tryz.prog 51 #[.agg #[.slice a1 n1 c1,.slice b1 m1 d1]] W (MEnd (fiM o) W):=by
 cases o with
 |none=>exact fl_no h1
 |some q=>exact fl_yes h1
end Go.Proofs.YtcfbjdplhgdpfaaGreatDoor

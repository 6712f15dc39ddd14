import Derived.Test.YtbijncndjlmmdaaGreatDoorMbd
set_option maxHeartbeats 3200000
set_option maxRecDepth 100000
namespace Go.Proofs.YtbijncndjlmmdaaGreatDoor
set_option linter.unusedVariables false
set_option linter.unusedSimpArgs false
open Go.RowKit
theorem vc_len (v:Ar):(vcM v).1.length=v.1.length-1+1:=by
 obtain⟨l,es⟩:=v
 unfold vcM
 cases l with
 |nil=>rfl
 |cons x r=>simp
theorem vc_tail (v:Ar):(vcM v).1.tail=v.1.tail:=by
 obtain⟨l,es⟩:=v
 unfold vcM
 cases l with
 |nil=>rfl
 |cons x r=>simp
theorem jn_rok {q r:Ar} (hq:Rok (some q)) (hr:Rok (some r)) (hfq:Fits q.1 q.2) (hfr:Fits r.1 r.2) (ht:q.1.tail=r.1.tail) (hz:szE ((maM q.1+maM r.1)::q.1.tail)=0):Rok (some ((maM q.1+maM r.1)::q.1.tail,q.2++r.2)):=by
 refine⟨hz,?_,fun x hx=>(List.mem_append.1 hx).elim (hq.2.2 x) (hr.2.2 x)⟩
 have hm:∀l:List Int,pr l=maM l*pr l.tail:=by
  intro l
  cases l with
  |nil=>rfl
  |cons x r=>rfl
 show((q.2++r.2).length:Int)=(maM q.1+maM r.1)*pr q.1.tail
 rw[List.length_append,Int.natCast_add,hq.2.1,hr.2.1,hm q.1,hm r.1,ht,Int.add_mul]
theorem jn_1 {a1 b1 a2 b2:Option Addr} {n1 c1 m1 d1 n2 c2 m2 d2:Nat} {l m:List Int} {es fs:List ByteArray} {W:World} (h1:Av W a1 n1 c1 b1 m1 d1 l es none):
 Calls Tryz.prog 104 #[.agg #[.slice a1 n1 c1,.slice b1 m1 d1],.agg #[.slice a2 n2 c2,.slice b2 m2 d2]] W (MEnd (none,1) W):=by
 have KV:=Lib.hid (fun w (hb:Below W.heap.size W w)=>VMay_av (h1.below hb))
 clear h1
 have h:=live2 W a1 n1 c1 b1 m1 d1 a2 n2 c2 b2 m2 d2
 go_enter Tryz.func104,Tryz.ntmps104
 have x1:=h.out.2.2.1.c0
 have y1:=h.out.2.2.1.c1
 go_wp2_with fail
 with_reducible refine(live h (KV.out _ h.out.2.2.2)).mono ?_
 clear h x1 y1
 rintro e w ⟨rfl,h⟩
 have y0:=h.out.1.c0
 have y3:=h.out.1.c1
 have f0:=h.out.1.f 0
 have f1:=h.out.1.f 1
 go_wp2_with fail
 have hR:=h.out.1.set none 0 0 none 0 0
 have r0:=hR.c0
 have r1:=hR.c1
 exact bodyPost_ret (v:=.tuple #[.agg #[.slice none 0 0,.slice none 0 0],.int .i64 1]) (by simp[results,Tryz.results104,go_sem,r0,r1]) rfl (mend_no h.out.1 h.out.2.2.2 (by omega))
theorem jn_2 {a1 b1 a2 b2:Option Addr} {n1 c1 m1 d1 n2 c2 m2 d2:Nat} {l m:List Int} {es fs:List ByteArray} {W:World} {q:Ar} (h1:Av W a1 n1 c1 b1 m1 d1 l es (some q)) (h2:Av W a2 n2 c2 b2 m2 d2 m fs none):
 Calls Tryz.prog 104 #[.agg #[.slice a1 n1 c1,.slice b1 m1 d1],.agg #[.slice a2 n2 c2,.slice b2 m2 d2]] W (MEnd (none,1) W):=by
 have KV:=Lib.hid (fun w (hb:Below W.heap.size W w)=>VMay_av (h1.below hb))
 have KU:=Lib.hid (fun w (hb:Below W.heap.size W w)=>VMay_av (h2.below hb))
 clear h1 h2
 have h:=live2 W a1 n1 c1 b1 m1 d1 a2 n2 c2 b2 m2 d2
 go_enter Tryz.func104,Tryz.ntmps104
 have x1:=h.out.2.2.1.c0
 have y1:=h.out.2.2.1.c1
 go_wp2_with fail
 with_reducible refine(live h (KV.out _ h.out.2.2.2)).mono ?_
 clear h x1 y1
 rintro e w ⟨rfl,h⟩
 have x2:=h.out.2.1.c0
 have y2:=h.out.2.1.c1
 go_wp2_with fail
 with_reducible refine(live h (KU.out _ h.out.2.2.2)).mono ?_
 clear h x2 y2
 rintro e w ⟨rfl,h⟩
 have y0:=h.out.1.c0
 have y3:=h.out.1.c1
 have f0:=h.out.1.f 0
 have f1:=h.out.1.f 1
 go_wp2_with fail
 have hR:=h.out.1.set none 0 0 none 0 0
 have r0:=hR.c0
 have r1:=hR.c1
 exact bodyPost_ret (v:=.tuple #[.agg #[.slice none 0 0,.slice none 0 0],.int .i64 1]) (by simp[results,Tryz.results104,go_sem,r0,r1]) rfl (mend_no h.out.1 h.out.2.2.2 (by omega))
theorem jn_3 {a1 b1 a2 b2:Option Addr} {n1 c1 m1 d1 n2 c2 m2 d2:Nat} {l m:List Int} {es fs:List ByteArray} {W:World} {q r:Ar} (h1:Av W a1 n1 c1 b1 m1 d1 l es (some q)) (h2:Av W a2 n2 c2 b2 m2 d2 m fs (some r)) (hn:n1-1≠n2-1):
 Calls Tryz.prog 104 #[.agg #[.slice a1 n1 c1,.slice b1 m1 d1],.agg #[.slice a2 n2 c2,.slice b2 m2 d2]] W (MEnd (none,3) W):=by
 have KV:=Lib.hid (fun w (hb:Below W.heap.size W w)=>VMay_av (h1.below hb))
 have KU:=Lib.hid (fun w (hb:Below W.heap.size W w)=>VMay_av (h2.below hb))
 have K1:=Lib.hid (fun w (hb:Below W.heap.size W w)=>Items_o a1 n1 c1 l w (h1.v.s.below hb) (by have:=h1.n3;omega) h1.c.nc h1.c.cm)
 have K2:=Lib.hid (fun w (hb:Below W.heap.size W w)=>Items_o a2 n2 c2 m w (h2.v.s.below hb) (by have:=h2.n3;omega) h2.c.nc h2.c.cm)
 obtain⟨N1,hN1⟩:∃N,N=n1-1:=⟨_,rfl⟩
 obtain⟨N2,hN2⟩:∃N,N=n2-1:=⟨_,rfl⟩
 have bd1:N1≤2:=by have:=h1.n3;omega
 have bd2:N2≤2:=by have:=h2.n3;omega
 rw[←hN1]at K1
 rw[←hN2]at K2
 have hne:(N1:Int)≠(N2:Int):=by omega
 generalize itV l=v1 at*
 generalize itV m=v2 at*
 clear h1 h2 hN1 hN2 hn
 have h:=live2 W a1 n1 c1 b1 m1 d1 a2 n2 c2 b2 m2 d2
 go_enter Tryz.func104,Tryz.ntmps104
 have x1:=h.out.2.2.1.c0
 have y1:=h.out.2.2.1.c1
 go_wp2_with fail
 with_reducible refine(live h (KV.out _ h.out.2.2.2)).mono ?_
 clear h x1 y1
 rintro e w ⟨rfl,h⟩
 have x2:=h.out.2.1.c0
 have y2:=h.out.2.1.c1
 go_wp2_with fail
 with_reducible refine(live h (KU.out _ h.out.2.2.2)).mono ?_
 clear h x2 y2
 rintro e w ⟨rfl,h⟩
 have x1:=h.out.2.2.1.c0
 have y1:=h.out.2.2.1.c1
 go_wp2_with fail
 refine(K1.out _ h.out.2.2.2).mono ?_
 clear x1 y1
 rintro e w1 ⟨ea,ec,rfl,ho1,hb1⟩
 have hr:=live_to h hb1
 have x2:=hr.out.2.1.c0
 have y2:=hr.out.2.1.c1
 go_wp2_with fail
 refine(K2.out _ hr.out.2.2.2).mono ?_
 clear x2 y2
 rintro e w2 ⟨oa,oc,rfl,ho2,hb2⟩
 have hbq:Below w.heap.size w w2:=hb1.trans (hb2.mono hb1.size)
 have HO:=Lib.hid (own_below ho1 hb2)
 have HQ:=Lib.hid (own_sl ho2)
 clear ho1 ho2 hb1 hb2 hr K1 K2
 replace h:=live_to h hbq
 clear hbq
 have y0:=h.out.1.c0
 have y3:=h.out.1.c1
 have f0:=h.out.1.f 0
 have f1:=h.out.1.f 1
 go_wp2_with fail
 have hR:=h.out.1.set none 0 0 none 0 0
 have r0:=hR.c0
 have r1:=hR.c1
 exact bodyPost_ret (v:=.tuple #[.agg #[.slice none 0 0,.slice none 0 0],.int .i64 3]) (by simp[results,Tryz.results104,go_sem,r0,r1]) rfl (mend_no h.out.1 h.out.2.2.2 (by omega))
theorem jn_4 {a1 b1 a2 b2:Option Addr} {n1 c1 m1 d1 n2 c2 m2 d2:Nat} {l m:List Int} {es fs:List ByteArray} {W:World} {q r:Ar} (h1:Av W a1 n1 c1 b1 m1 d1 l es (some q)) (h2:Av W a2 n2 c2 b2 m2 d2 m fs (some r)) (hn:n1-1=n2-1) (ht:l.tail≠m.tail):
 Calls Tryz.prog 104 #[.agg #[.slice a1 n1 c1,.slice b1 m1 d1],.agg #[.slice a2 n2 c2,.slice b2 m2 d2]] W (MEnd (none,4) W):=by
 have KV:=Lib.hid (fun w (hb:Below W.heap.size W w)=>VMay_av (h1.below hb))
 have KU:=Lib.hid (fun w (hb:Below W.heap.size W w)=>VMay_av (h2.below hb))
 have K1:=Lib.hid (fun w (hb:Below W.heap.size W w)=>Items_o a1 n1 c1 l w (h1.v.s.below hb) (by have:=h1.n3;omega) h1.c.nc h1.c.cm)
 have K2:=Lib.hid (fun w (hb:Below W.heap.size W w)=>Items_o a2 n2 c2 m w (h2.v.s.below hb) (by have:=h2.n3;omega) h2.c.nc h2.c.cm)
 obtain⟨N1,hN1⟩:∃N,N=n1-1:=⟨_,rfl⟩
 obtain⟨N2,hN2⟩:∃N,N=n2-1:=⟨_,rfl⟩
 have bd1:N1≤2:=by have:=h1.n3;omega
 have bd2:N2≤2:=by have:=h2.n3;omega
 rw[←hN1]at K1
 rw[←hN2]at K2
 have hnn:N2=N1:=by omega
 rw[hnn]at K2
 have hbe:(l.tail==m.tail)=false:=beq_eq_false_iff_ne.2 ht
 have HB:=Lib.hid hbe
 generalize itV l=v1 at*
 generalize itV m=v2 at*
 clear h1 h2 hN1 hN2 hn ht hbe hnn bd2
 have h:=live2 W a1 n1 c1 b1 m1 d1 a2 n2 c2 b2 m2 d2
 go_enter Tryz.func104,Tryz.ntmps104
 have x1:=h.out.2.2.1.c0
 have y1:=h.out.2.2.1.c1
 go_wp2_with fail
 with_reducible refine(live h (KV.out _ h.out.2.2.2)).mono ?_
 clear h x1 y1
 rintro e w ⟨rfl,h⟩
 have x2:=h.out.2.1.c0
 have y2:=h.out.2.1.c1
 go_wp2_with fail
 with_reducible refine(live h (KU.out _ h.out.2.2.2)).mono ?_
 clear h x2 y2
 rintro e w ⟨rfl,h⟩
 have x1:=h.out.2.2.1.c0
 have y1:=h.out.2.2.1.c1
 go_wp2_with fail
 refine(K1.out _ h.out.2.2.2).mono ?_
 clear x1 y1
 rintro e w1 ⟨ea,ec,rfl,ho1,hb1⟩
 have hr:=live_to h hb1
 have x2:=hr.out.2.1.c0
 have y2:=hr.out.2.1.c1
 go_wp2_with fail
 refine(K2.out _ hr.out.2.2.2).mono ?_
 clear x2 y2
 rintro e w2 ⟨oa,oc,rfl,ho2,hb2⟩
 have hbq:Below w.heap.size w w2:=hb1.trans (hb2.mono hb1.size)
 have HO:=Lib.hid (own_below ho1 hb2)
 have HQ:=Lib.hid (own_sl ho2)
 clear ho1 ho2 hb1 hb2 hr K1 K2
 go_wp2_with fail
 have KS:=Same_is ea oa N1 ec N1 oc l.tail m.tail w2 (own_sl HO.out) HQ.out (by omega) (by omega)
 rw[HB.out]at KS
 refine KS.mono ?_
 rintro e w3 ⟨rfl,hb3⟩
 replace hbq:=hbq.trans (hb3.mono hbq.size)
 have HO3:=Lib.hid (own_below HO.out hb3)
 clear KS hb3 HO HQ
 replace h:=live_to h hbq
 clear hbq
 have y0:=h.out.1.c0
 have y3:=h.out.1.c1
 have f0:=h.out.1.f 0
 have f1:=h.out.1.f 1
 go_wp2_with fail
 have hR:=h.out.1.set none 0 0 none 0 0
 have r0:=hR.c0
 have r1:=hR.c1
 exact bodyPost_ret (v:=.tuple #[.agg #[.slice none 0 0,.slice none 0 0],.int .i64 4]) (by simp[results,Tryz.results104,go_sem,r0,r1]) rfl (mend_no h.out.1 h.out.2.2.2 (by omega))
theorem jn_5 {a1 b1 a2 b2:Option Addr} {n1 c1 m1 d1 n2 c2 m2 d2:Nat} {l m:List Int} {es fs:List ByteArray} {W:World} {q r:Ar} (h1:Av W a1 n1 c1 b1 m1 d1 l es (some q)) (h2:Av W a2 n2 c2 b2 m2 d2 m fs (some r)) (hn:n1-1=n2-1) (ht:l.tail=m.tail) (hz:szE ((itV l+itV m)::l.tail)≠0):
 Calls Tryz.prog 104 #[.agg #[.slice a1 n1 c1,.slice b1 m1 d1],.agg #[.slice a2 n2 c2,.slice b2 m2 d2]] W (MEnd (none,szE ((itV l+itV m)::l.tail)) W):=by
 have KV:=Lib.hid (fun w (hb:Below W.heap.size W w)=>VMay_av (h1.below hb))
 have KU:=Lib.hid (fun w (hb:Below W.heap.size W w)=>VMay_av (h2.below hb))
 have K1:=Lib.hid (fun w (hb:Below W.heap.size W w)=>Items_o a1 n1 c1 l w (h1.v.s.below hb) (by have:=h1.n3;omega) h1.c.nc h1.c.cm)
 have K2:=Lib.hid (fun w (hb:Below W.heap.size W w)=>Items_o a2 n2 c2 m w (h2.v.s.below hb) (by have:=h2.n3;omega) h2.c.nc h2.c.cm)
 obtain⟨N1,hN1⟩:∃N,N=n1-1:=⟨_,rfl⟩
 obtain⟨N2,hN2⟩:∃N,N=n2-1:=⟨_,rfl⟩
 have bd1:N1≤2:=by have:=h1.n3;omega
 have bd2:N2≤2:=by have:=h2.n3;omega
 rw[←hN1]at K1
 rw[←hN2]at K2
 have hnn:N2=N1:=by omega
 rw[hnn]at K2
 have hbe:(l.tail==m.tail)=true:=by rw[ht];exact beq_self_eq_true _
 have HB:=Lib.hid hbe
 have hw:IntKind.i64.wrap (itV l+itV m)=itV l+itV m:=IntWalk.i64_in _ (by have:=h1.items.2.1;have:=h1.items.2.2.1;have:=h2.items.2.1;have:=h2.items.2.2.1;omega)
 have KZ:=Lib.hid (fun w a c (hs:Sl w a (N1+1) ((itV l+itV m)::l.tail))=>Size_is a (N1+1) c ((itV l+itV m)::l.tail) w hs)
 unfold SizeIs at KZ
 rw[szV_zero hz]at KZ
 generalize szE ((itV l+itV m)::l.tail)=E at*
 have hE:(E != 0)=true:=by simpa using hz
 generalize itV l=v1 at*
 generalize itV m=v2 at*
 clear h1 h2 hN1 hN2 hn ht hbe hnn bd2 hz
 have h:=live2 W a1 n1 c1 b1 m1 d1 a2 n2 c2 b2 m2 d2
 go_enter Tryz.func104,Tryz.ntmps104
 have x1:=h.out.2.2.1.c0
 have y1:=h.out.2.2.1.c1
 go_wp2_with fail
 with_reducible refine(live h (KV.out _ h.out.2.2.2)).mono ?_
 clear h x1 y1
 rintro e w ⟨rfl,h⟩
 have x2:=h.out.2.1.c0
 have y2:=h.out.2.1.c1
 go_wp2_with fail
 with_reducible refine(live h (KU.out _ h.out.2.2.2)).mono ?_
 clear h x2 y2
 rintro e w ⟨rfl,h⟩
 have x1:=h.out.2.2.1.c0
 have y1:=h.out.2.2.1.c1
 go_wp2_with fail
 refine(K1.out _ h.out.2.2.2).mono ?_
 clear x1 y1
 rintro e w1 ⟨ea,ec,rfl,ho1,hb1⟩
 have hr:=live_to h hb1
 have x2:=hr.out.2.1.c0
 have y2:=hr.out.2.1.c1
 go_wp2_with fail
 refine(K2.out _ hr.out.2.2.2).mono ?_
 clear x2 y2
 rintro e w2 ⟨oa,oc,rfl,ho2,hb2⟩
 have hbq:Below w.heap.size w w2:=hb1.trans (hb2.mono hb1.size)
 have HO:=Lib.hid (own_below ho1 hb2)
 have HQ:=Lib.hid (own_sl ho2)
 clear ho1 ho2 hb1 hb2 hr K1 K2
 go_wp2_with fail
 have KS:=Same_is ea oa N1 ec N1 oc l.tail m.tail w2 (own_sl HO.out) HQ.out (by omega) (by omega)
 rw[HB.out]at KS
 refine KS.mono ?_
 rintro e w3 ⟨rfl,hb3⟩
 replace hbq:=hbq.trans (hb3.mono hbq.size)
 have HO3:=Lib.hid (own_below HO.out hb3)
 clear KS hb3 HO HQ
 have o3:=HO3.out.alloc (.cells #[.int .i64 (v1+v2)] 3)
 have hbA:=hbq.alloc hbq.size (.cells #[.int .i64 (v1+v2)] 3)
 have HI:=Lib.hid (Insert_o (x:=v1+v2) (g:=w3.heap.size) o3 (by omega) (heap_alloc_new w3 _) (fun b hb e=>by
  have hlt:b<w3.heap.size:=by
   rcases HO3.out.2 with⟨g1,_⟩|⟨g,cap,cur,g1,_,g2,_⟩
   · injection g1 with g1;rw[g1]at hb;cases hb
   · injection g1 with g1;rw[g1]at hb;injection hb with hb;rw[←hb];exact(Array.getElem?_eq_some_iff.1 g2).1
  omega) hbA.size)
 clear o3
 go_wp2_with fail
 refine HI.out.mono ?_
 rintro e w4 ⟨ja,jc,rfl,hj,hj1,hj2,hb4⟩
 replace hbq:=hbA.trans hb4
 have HJ:=Lib.hid (And.intro hj (And.intro hj1 hj2))
 clear hbA hb4 hj hj1 hj2 HI HO3
 go_wp2_with fail
 refine(KZ.out _ _ _ HJ.out.1).mono ?_
 rintro e w9 ⟨rfl,rfl⟩
 replace h:=live_to h hbq
 clear hbq
 have y0:=h.out.1.c0
 have y3:=h.out.1.c1
 have f0:=h.out.1.f 0
 have f1:=h.out.1.f 1
 go_wp2_with fail
 have hR:=h.out.1.set none 0 0 none 0 0
 have r0:=hR.c0
 have r1:=hR.c1
 exact bodyPost_ret (v:=.tuple #[.agg #[.slice none 0 0,.slice none 0 0],.int .i64 E]) (by simp[results,Tryz.results104,go_sem,r0,r1]) rfl (mend_no h.out.1 h.out.2.2.2 (by omega))
theorem jn_6 {a1 b1 a2 b2:Option Addr} {n1 c1 m1 d1 n2 c2 m2 d2:Nat} {l m:List Int} {es fs:List ByteArray} {W:World} {q r:Ar} (h1:Av W a1 n1 c1 b1 m1 d1 l es (some q)) (h2:Av W a2 n2 c2 b2 m2 d2 m fs (some r)) (hn:n1-1=n2-1) (ht:l.tail=m.tail) (hz:szE ((itV l+itV m)::l.tail)=0):
 Calls Tryz.prog 104 #[.agg #[.slice a1 n1 c1,.slice b1 m1 d1],.agg #[.slice a2 n2 c2,.slice b2 m2 d2]] W (MEnd (some ((itV l+itV m)::l.tail,q.2++r.2),0) W):=by
 have KV:=Lib.hid (fun w (hb:Below W.heap.size W w)=>VMay_av (h1.below hb))
 have KU:=Lib.hid (fun w (hb:Below W.heap.size W w)=>VMay_av (h2.below hb))
 have K1:=Lib.hid (fun w (hb:Below W.heap.size W w)=>Items_o a1 n1 c1 l w (h1.v.s.below hb) (by have:=h1.n3;omega) h1.c.nc h1.c.cm)
 have K2:=Lib.hid (fun w (hb:Below W.heap.size W w)=>Items_o a2 n2 c2 m w (h2.v.s.below hb) (by have:=h2.n3;omega) h2.c.nc h2.c.cm)
 obtain⟨N1,hN1⟩:∃N,N=n1-1:=⟨_,rfl⟩
 obtain⟨N2,hN2⟩:∃N,N=n2-1:=⟨_,rfl⟩
 have bd1:N1≤2:=by have:=h1.n3;omega
 have bd2:N2≤2:=by have:=h2.n3;omega
 rw[←hN1]at K1
 rw[←hN2]at K2
 have hnn:N2=N1:=by omega
 rw[hnn]at K2
 have hbe:(l.tail==m.tail)=true:=by rw[ht];exact beq_self_eq_true _
 have HB:=Lib.hid hbe
 have hw:IntKind.i64.wrap (itV l+itV m)=itV l+itV m:=IntWalk.i64_in _ (by have:=h1.items.2.1;have:=h1.items.2.2.1;have:=h2.items.2.1;have:=h2.items.2.2.1;omega)
 have KZ:=Lib.hid (fun w a c (hs:Sl w a (N1+1) ((itV l+itV m)::l.tail))=>Size_is a (N1+1) c ((itV l+itV m)::l.tail) w hs)
 unfold SizeIs at KZ
 rw[hz]at KZ
 generalize szV ((itV l+itV m)::l.tail)=vz at*
 have hm1:=h1.mlen.2.2
 have hm2:=h2.mlen.2.2
 have HT:=Lib.hid (fun w (hb:Below W.heap.size W w)=>And.intro (h1.v.t.below hb:St w b1 m1 es) (h2.v.t.below hb:St w b2 m2 fs))
 have HR:Hid (Rok (some ((itV l+itV m)::l.tail,q.2++r.2))):=Lib.hid (by
  have e1:=h1.fst
  have e2:=h2.fst
  subst e1 e2
  exact jn_rok h1.i.rok h2.i.rok h1.fits h2.fits ht hz)
 have HE:=Lib.hid (show es++fs=(q.2++r.2).map S by rw[h1.i.2.1,h2.i.2.1,List.map_append])
 generalize q.2++r.2=Z at*
 generalize itV l=v1 at*
 generalize itV m=v2 at*
 clear h1 h2 hN1 hN2 hn ht hbe hnn bd2 hz
 have h:=live2 W a1 n1 c1 b1 m1 d1 a2 n2 c2 b2 m2 d2
 go_enter Tryz.func104,Tryz.ntmps104
 have x1:=h.out.2.2.1.c0
 have y1:=h.out.2.2.1.c1
 go_wp2_with fail
 with_reducible refine(live h (KV.out _ h.out.2.2.2)).mono ?_
 clear h x1 y1
 rintro e w ⟨rfl,h⟩
 have x2:=h.out.2.1.c0
 have y2:=h.out.2.1.c1
 go_wp2_with fail
 with_reducible refine(live h (KU.out _ h.out.2.2.2)).mono ?_
 clear h x2 y2
 rintro e w ⟨rfl,h⟩
 have x1:=h.out.2.2.1.c0
 have y1:=h.out.2.2.1.c1
 go_wp2_with fail
 refine(K1.out _ h.out.2.2.2).mono ?_
 clear x1 y1
 rintro e w1 ⟨ea,ec,rfl,ho1,hb1⟩
 have hr:=live_to h hb1
 have x2:=hr.out.2.1.c0
 have y2:=hr.out.2.1.c1
 go_wp2_with fail
 refine(K2.out _ hr.out.2.2.2).mono ?_
 clear x2 y2
 rintro e w2 ⟨oa,oc,rfl,ho2,hb2⟩
 have hbq:Below w.heap.size w w2:=hb1.trans (hb2.mono hb1.size)
 have HO:=Lib.hid (own_below ho1 hb2)
 have HQ:=Lib.hid (own_sl ho2)
 clear ho1 ho2 hb1 hb2 hr K1 K2
 go_wp2_with fail
 have KS:=Same_is ea oa N1 ec N1 oc l.tail m.tail w2 (own_sl HO.out) HQ.out (by omega) (by omega)
 rw[HB.out]at KS
 refine KS.mono ?_
 rintro e w3 ⟨rfl,hb3⟩
 replace hbq:=hbq.trans (hb3.mono hbq.size)
 have HO3:=Lib.hid (own_below HO.out hb3)
 clear KS hb3 HO HQ
 have o3:=HO3.out.alloc (.cells #[.int .i64 (v1+v2)] 3)
 have hbA:=hbq.alloc hbq.size (.cells #[.int .i64 (v1+v2)] 3)
 have HI:=Lib.hid (Insert_o (x:=v1+v2) (g:=w3.heap.size) o3 (by omega) (heap_alloc_new w3 _) (fun b hb e=>by
  have hlt:b<w3.heap.size:=by
   rcases HO3.out.2 with⟨g1,_⟩|⟨g,cap,cur,g1,_,g2,_⟩
   · injection g1 with g1;rw[g1]at hb;cases hb
   · injection g1 with g1;rw[g1]at hb;injection hb with hb;rw[←hb];exact(Array.getElem?_eq_some_iff.1 g2).1
  omega) hbA.size)
 clear o3
 go_wp2_with fail
 refine HI.out.mono ?_
 rintro e w4 ⟨ja,jc,rfl,hj,hj1,hj2,hb4⟩
 replace hbq:=hbA.trans hb4
 have HJ:=Lib.hid (And.intro hj (And.intro hj1 hj2))
 clear hbA hb4 hj hj1 hj2 HI HO3
 go_wp2_with fail
 refine(KZ.out _ _ _ HJ.out.1).mono ?_
 rintro e w9 ⟨rfl,rfl⟩
 replace h:=live_to h hbq
 clear hbq
 have x1:=h.out.2.2.1.c0
 have y1:=h.out.2.2.1.c1
 have x2:=h.out.2.1.c0
 have y2:=h.out.2.1.c1
 have y0:=h.out.1.c0
 have y3:=h.out.1.c1
 have f0:=h.out.1.f 0
 have f1:=h.out.1.f 1
 go_wp2_with fail
 have hbA:=(Below.refl w4.heap.size w4).alloc (Nat.le_refl _) (.cells #[.slice b1 m1 d1,.slice b2 m2 d2] 23)
 have hT:=HT.out w4 h.out.2.2.2
 refine(Concat_two (heap_alloc_new w4 _) (hT.1.below hbA) (hT.2.below hbA) (by omega) (by omega)).mono ?_
 clear x1 y1 x2 y2 y0 y3 f0 f1
 rintro e w5 ⟨ca,cc,rfl,ho,hb5⟩
 have hb6:=hbA.trans (hb5.mono hbA.size)
 have HJ5:=Lib.hid (HJ.out.1.below hb6)
 replace h:=live_to h hb6
 have HC:=Lib.hid ho
 clear hbA hb5 hb6 ho hT
 have y0:=h.out.1.c0
 have y3:=h.out.1.c1
 have f0:=h.out.1.f 0
 have f1:=h.out.1.f 1
 go_wp2_with fail
 have hV:Vl w5 ja (N1+1) ca (m1+m2) (TS (some ((v1+v2)::l.tail,Z))).1 (TS (some ((v1+v2)::l.tail,Z))).2:=⟨HJ5.out,by rw[show(TS (some ((v1+v2)::l.tail,Z))).2=es++fs from HE.out.symm];exact own_st HC.out,by omega⟩
 have hR:=h.out.1.set ja (N1+1) jc ca (m1+m2) cc
 have r0:=hR.c0
 have r1:=hR.c1
 exact bodyPost_ret (v:=.tuple #[.agg #[.slice ja (N1+1) jc,.slice ca (m1+m2) cc],.int .i64 0]) (by simp[results,Tryz.results104,go_sem,r0,r1]) rfl (mend_box (r:=_) h.out.1 h.out.2.2.2 (by omega) hV ⟨HJ.out.2.1,HJ.out.2.2,(own_caps HC.out).1,(own_caps HC.out).2⟩ HR.out)
theorem MJoin_is {a1 b1 a2 b2:Option Addr} {n1 c1 m1 d1 n2 c2 m2 d2:Nat} {l m:List Int} {es fs:List ByteArray} {W:World} {o p:Option Ar} (h1:Av W a1 n1 c1 b1 m1 d1 l es o) (h2:Av W a2 n2 c2 b2 m2 d2 m fs p):Calls Tryz.prog 104 #[.agg #[.slice a1 n1 c1,.slice b1 m1 d1],.agg #[.slice a2 n2 c2,.slice b2 m2 d2]] W (MEnd (jnM o p) W):=by
 cases o with
 |none=>exact jn_1 (m:=m) (fs:=fs) h1
 |some q=>
 cases p with
 |none=>exact jn_2 h1 h2
 |some r=>
 have l1:q.1.length=n1:=by rw[h1.fst];exact h1.v.s.1
 have l2:r.1.length=n2:=by rw[h2.fst];exact h2.v.s.1
 have e1:=h1.fst
 have e2:=h2.fst
 have eq0:jnM (some q) (some r)=if n1-1≠n2-1 then(none,3)else if l.tail≠m.tail then(none,4)else if szE ((itV l+itV m)::l.tail)≠0 then(none,szE ((itV l+itV m)::l.tail))else(some ((itV l+itV m)::l.tail,q.2++r.2),0):=by
  simp only[jnM]
  rw[vcM_head,vcM_head,vc_tail,vc_tail,vc_len,vc_len,l1,l2,e1,e2]
  by_cases h:n1-1=n2-1
  · rw[if_neg (show¬(n1-1+1≠n2-1+1)by omega),if_neg (show¬(n1-1≠n2-1)by omega)];rfl
  · rw[if_pos (show n1-1+1≠n2-1+1 by omega),if_pos h]
 rw[eq0]
 by_cases hn:n1-1=n2-1
 · rw[if_neg (by omega)]
   by_cases ht:l.tail=m.tail
   · rw[if_neg (fun h=>h ht)]
     by_cases hz:szE ((itV l+itV m)::l.tail)=0
     · rw[if_neg (fun h=>h hz)];exact jn_6 h1 h2 hn ht hz
     · rw[if_pos hz];exact jn_5 h1 h2 hn ht hz
   · rw[if_pos ht];exact jn_4 h1 h2 hn ht
 · rw[if_pos hn];exact jn_3 h1 h2 hn
end Go.Proofs.YtbijncndjlmmdaaGreatDoor

import Derived.Test.YtcfbjdplhgdpfaaGreatDoorMaz
import Derived.Deep.RegionHeld3
import Derived.Deep.DeepCutAuto
set_option maxHeartbeats 6400000
set_option maxRecDepth 100000
namespace Go.Proofs.YtcfbjdplhgdpfaaGreatDoor
set_option linter.unusedVariables false
set_option linter.unusedSimpArgs false
open Go.RowKit
theorem DvB.fails {g:Nat} {op:ByteArray} {v u:Array Value} {w0 w5:World} (h:DvB g op v u w5) (hb:Below w0.heap.size w0 w5) (hg:w0.heap.size=g) (ec:Int):
 Bx (((w5.setCell ⟨g+3,0,none⟩ (.slice none 0 0)).setCell ⟨g+3,1,none⟩ (.slice none 0 0)).setCell ⟨g+4,0,none⟩ (.int .i64 ec)) (g+3) none 0 0 none 0 0
 ∧Boxed (((w5.setCell ⟨g+3,0,none⟩ (.slice none 0 0)).setCell ⟨g+3,1,none⟩ (.slice none 0 0)).setCell ⟨g+4,0,none⟩ (.int .i64 ec)) (g+4) 28 (.int .i64 ec)
 ∧AEnd [] [] ec w0 (.returned (.tuple #[.agg #[.slice none 0 0,.slice none 0 0],.int .i64 ec])) (((w5.setCell ⟨g+3,0,none⟩ (.slice none 0 0)).setCell ⟨g+3,1,none⟩ (.slice none 0 0)).setCell ⟨g+4,0,none⟩ (.int .i64 ec)):=by
 have h1:Boxed ((w5.setCell ⟨g+3,0,none⟩ (.slice none 0 0)).setCell ⟨g+3,1,none⟩ (.slice none 0 0)) (g+4) 28 (.int .i64 0):=((Below.heap_setCell _ _ _ _ (by simp)).trans (Below.heap_setCell _ _ _ _ (by simp))).trans h.e
 exact⟨(h.r.set none 0 0 none 0 0).setOther (by simp) _,h1.set _,none,0,0,none,0,0,rfl,Vl.none_ _,⟨by omega,by unfold maxLen;omega,by omega,by unfold maxLen;omega⟩,
  ((hb.setCell (p:=⟨g+3,0,none⟩) (by simp;omega) _).setCell (p:=⟨g+3,1,none⟩) (by simp;omega) _).setCell (p:=⟨g+4,0,none⟩) (by simp;omega) _⟩
theorem SDyad_sign {op:ByteArray} {a1 b1 a2 b2:Option Addr} {n1 c1 m1 d1 n2 c2 m2 d2:Nat} (W:World) (hW:SC W) (ho:op.size≤maxLen) (hk:¬kdL op.data.toList<11):
 Calls Tryz.prog 126 #[.string op,.agg #[.slice a1 n1 c1,.slice b1 m1 d1],.agg #[.slice a2 n2 c2,.slice b2 m2 d2]] W (AEnd [] [] 1 W):=by
 obtain⟨hB0,hb0⟩:=dvW_is W op #[.slice a1 n1 c1,.slice b1 m1 d1] #[.slice a2 n2 c2,.slice b2 m2 d2]
 have KO:=fun w (hw:SC w)=>Ops_is op ho w hw
 rw[decide_eq_false hk]at KO
 replace KO:=Lib.hid KO
 have HW:=Lib.hid hW
 have hbw0:=HW.out.below hb0
 clear hW ho hk
 go_enter Tryz.func126,Tryz.ntmps126
 go_wp2_with fail
 refine(KO.out _ hbw0).mono ?_
 rintro e w1 ⟨rfl,hq⟩
 have hB1:=hB0.below hq
 have hb1:=hb0.trans (hq.mono hb0.size)
 clear hB0 hb0 hq hbw0
 have r0:=hB1.r.c0
 have r1:=hB1.r.c1
 have f0:=hB1.r.f 0
 have f1:=hB1.r.f 1
 have r2:=hB1.e.cell
 have f2:=hB1.e.frozen
 have HB:=Lib.hid hB1
 have Hb:=Lib.hid hb1
 clear hB1 hb1
 go_wp2_with fail
 obtain⟨h1,h2,h3⟩:=HB.out.fails Hb.out rfl 1
 have b0:=h1.c0
 have b1:=h1.c1
 have b2:=h2.cell
 exact bodyPost_ret (v:=.tuple #[.agg #[.slice none 0 0,.slice none 0 0],.int .i64 1]) (by simp[results,Tryz.results126,go_sem,b0,b1,b2]) rfl h3
theorem SDyad_one {op:ByteArray} {a1 b1 a2 b2:Option Addr} {n1 c1 m1 d1 n2 c2 m2 d2:Nat} {l m:List Int} {es fs:List ByteArray} (W:World) (hW:SC W) (ho:op.size≤maxLen) (hk:kdL op.data.toList<11) (hV:Vl W a1 n1 b1 m1 l es) (hz1:∀j,j<m1→(es.getD j ByteArray.empty).size≤maxLen) (hm1:mayV l es=false):
 Calls Tryz.prog 126 #[.string op,.agg #[.slice a1 n1 c1,.slice b1 m1 d1],.agg #[.slice a2 n2 c2,.slice b2 m2 d2]] W (AEnd [] [] 1 W):=by
 obtain⟨hB0,hb0⟩:=dvW_is W op #[.slice a1 n1 c1,.slice b1 m1 d1] #[.slice a2 n2 c2,.slice b2 m2 d2]
 have KO:=fun w (hw:SC w)=>Ops_is op ho w hw
 rw[decide_eq_true hk]at KO
 replace KO:=Lib.hid KO
 have HW:=Lib.hid hW
 have hbw0:=HW.out.below hb0
 have KV:=fun w (hb:Below W.heap.size W w)=>VMay_is (c:=c1) (d:=d1) w (hV.below hb) hz1
 rw[hm1]at KV
 replace KV:=Lib.hid KV
 clear hW ho hk hV hz1 hm1
 go_enter Tryz.func126,Tryz.ntmps126
 go_wp2_with fail
 refine(KO.out _ hbw0).mono ?_
 rintro e w1 ⟨rfl,hq⟩
 have hB1:=hB0.below hq
 have hb1:=hb0.trans (hq.mono hb0.size)
 clear hB0 hb0 hq hbw0
 have v0:w1.cell? ⟨W.heap.size+1,0,none⟩=some (.slice a1 n1 c1):=by rw[cell_of_row _ _ 0 _ _ _ hB1.v];rfl
 have v1:w1.cell? ⟨W.heap.size+1,1,none⟩=some (.slice b1 m1 d1):=by rw[cell_of_row _ _ 1 _ _ _ hB1.v];rfl
 have z0:=hB1.r.c0
 have z1:=hB1.r.c1
 have f0:=hB1.r.f 0
 have f1:=hB1.r.f 1
 have z2:=hB1.e.cell
 have f2:=hB1.e.frozen
 go_wp2_with fail
 refine(KV.out _ hb1).mono ?_
 rintro e w2 ⟨rfl,hq⟩
 have hB2:=hB1.below hq
 have hb2:=hb1.trans (hq.mono hb1.size)
 clear hB1 hb1 hq v0 v1 z0 z1 f0 f1 z2 f2
 have r0:=hB2.r.c0
 have r1:=hB2.r.c1
 have f0:=hB2.r.f 0
 have f1:=hB2.r.f 1
 have r2:=hB2.e.cell
 have f2:=hB2.e.frozen
 have HB:=Lib.hid hB2
 have Hb:=Lib.hid hb2
 clear hB2 hb2
 go_wp2_with fail
 obtain⟨h1,h2,h3⟩:=HB.out.fails Hb.out rfl 1
 have b0:=h1.c0
 have b1:=h1.c1
 have b2:=h2.cell
 exact bodyPost_ret (v:=.tuple #[.agg #[.slice none 0 0,.slice none 0 0],.int .i64 1]) (by simp[results,Tryz.results126,go_sem,b0,b1,b2]) rfl h3
theorem SDyad_two {op:ByteArray} {a1 b1 a2 b2:Option Addr} {n1 c1 m1 d1 n2 c2 m2 d2:Nat} {l m:List Int} {es fs:List ByteArray} (W:World) (hW:SC W) (ho:op.size≤maxLen) (hk:kdL op.data.toList<11) (hV:Vl W a1 n1 b1 m1 l es) (hz1:∀j,j<m1→(es.getD j ByteArray.empty).size≤maxLen) (hm1:mayV l es=true) (hU:Vl W a2 n2 b2 m2 m fs) (hz2:∀j,j<m2→(fs.getD j ByteArray.empty).size≤maxLen) (hm2:mayV m fs=false):
 Calls Tryz.prog 126 #[.string op,.agg #[.slice a1 n1 c1,.slice b1 m1 d1],.agg #[.slice a2 n2 c2,.slice b2 m2 d2]] W (AEnd [] [] 1 W):=by
 obtain⟨hB0,hb0⟩:=dvW_is W op #[.slice a1 n1 c1,.slice b1 m1 d1] #[.slice a2 n2 c2,.slice b2 m2 d2]
 have KO:=fun w (hw:SC w)=>Ops_is op ho w hw
 rw[decide_eq_true hk]at KO
 replace KO:=Lib.hid KO
 have HW:=Lib.hid hW
 have hbw0:=HW.out.below hb0
 have KV:=fun w (hb:Below W.heap.size W w)=>VMay_is (c:=c1) (d:=d1) w (hV.below hb) hz1
 rw[hm1]at KV
 replace KV:=Lib.hid KV
 have KU:=fun w (hb:Below W.heap.size W w)=>VMay_is (c:=c2) (d:=d2) w (hU.below hb) hz2
 rw[hm2]at KU
 replace KU:=Lib.hid KU
 clear hW ho hk hV hz1 hm1 hU hz2 hm2
 go_enter Tryz.func126,Tryz.ntmps126
 go_wp2_with fail
 refine(KO.out _ hbw0).mono ?_
 rintro e w1 ⟨rfl,hq⟩
 have hB1:=hB0.below hq
 have hb1:=hb0.trans (hq.mono hb0.size)
 clear hB0 hb0 hq hbw0
 have v0:w1.cell? ⟨W.heap.size+1,0,none⟩=some (.slice a1 n1 c1):=by rw[cell_of_row _ _ 0 _ _ _ hB1.v];rfl
 have v1:w1.cell? ⟨W.heap.size+1,1,none⟩=some (.slice b1 m1 d1):=by rw[cell_of_row _ _ 1 _ _ _ hB1.v];rfl
 have z0:=hB1.r.c0
 have z1:=hB1.r.c1
 have f0:=hB1.r.f 0
 have f1:=hB1.r.f 1
 have z2:=hB1.e.cell
 have f2:=hB1.e.frozen
 go_wp2_with fail
 refine(KV.out _ hb1).mono ?_
 rintro e w2 ⟨rfl,hq⟩
 have hB2:=hB1.below hq
 have hb2:=hb1.trans (hq.mono hb1.size)
 clear hB1 hb1 hq v0 v1 z0 z1 f0 f1 z2 f2
 have v0:w2.cell? ⟨W.heap.size+2,0,none⟩=some (.slice a2 n2 c2):=by rw[cell_of_row _ _ 0 _ _ _ hB2.u];rfl
 have v1:w2.cell? ⟨W.heap.size+2,1,none⟩=some (.slice b2 m2 d2):=by rw[cell_of_row _ _ 1 _ _ _ hB2.u];rfl
 go_wp2_with fail
 refine(KU.out _ hb2).mono ?_
 rintro e w3 ⟨rfl,hq⟩
 have hB3:=hB2.below hq
 have hb3:=hb2.trans (hq.mono hb2.size)
 clear hB2 hb2 hq v0 v1
 have r0:=hB3.r.c0
 have r1:=hB3.r.c1
 have f0:=hB3.r.f 0
 have f1:=hB3.r.f 1
 have r2:=hB3.e.cell
 have f2:=hB3.e.frozen
 have HB:=Lib.hid hB3
 have Hb:=Lib.hid hb3
 clear hB3 hb3
 go_wp2_with fail
 obtain⟨h1,h2,h3⟩:=HB.out.fails Hb.out rfl 1
 have b0:=h1.c0
 have b1:=h1.c1
 have b2:=h2.cell
 exact bodyPost_ret (v:=.tuple #[.agg #[.slice none 0 0,.slice none 0 0],.int .i64 1]) (by simp[results,Tryz.results126,go_sem,b0,b1,b2]) rfl h3
theorem SDyad_apart {op:ByteArray} {a1 b1 a2 b2:Option Addr} {n1 c1 m1 d1 n2 c2 m2 d2:Nat} {l m:List Int} {es fs:List ByteArray} (W:World) (hW:SC W) (ho:op.size≤maxLen) (hk:kdL op.data.toList<11) (hV:Vl W a1 n1 b1 m1 l es) (hz1:∀j,j<m1→(es.getD j ByteArray.empty).size≤maxLen) (hm1:mayV l es=true) (hU:Vl W a2 n2 b2 m2 m fs) (hz2:∀j,j<m2→(fs.getD j ByteArray.empty).size≤maxLen) (hm2:mayV m fs=true) (hm:meE l m=4):
 Calls Tryz.prog 126 #[.string op,.agg #[.slice a1 n1 c1,.slice b1 m1 d1],.agg #[.slice a2 n2 c2,.slice b2 m2 d2]] W (AEnd [] [] 4 W):=by
 obtain⟨hB0,hb0⟩:=dvW_is W op #[.slice a1 n1 c1,.slice b1 m1 d1] #[.slice a2 n2 c2,.slice b2 m2 d2]
 have KO:=fun w (hw:SC w)=>Ops_is op ho w hw
 rw[decide_eq_true hk]at KO
 replace KO:=Lib.hid KO
 have HW:=Lib.hid hW
 have hbw0:=HW.out.below hb0
 have KV:=fun w (hb:Below W.heap.size W w)=>VMay_is (c:=c1) (d:=d1) w (hV.below hb) hz1
 rw[hm1]at KV
 replace KV:=Lib.hid KV
 have KU:=fun w (hb:Below W.heap.size W w)=>VMay_is (c:=c2) (d:=d2) w (hU.below hb) hz2
 rw[hm2]at KU
 replace KU:=Lib.hid KU
 have hn1:n1≤20:=by have:=(szE_may.1 (mayV_yes.1 hm1).e).len;rw[hV.s.1]at this;omega
 have hn2:n2≤20:=by have:=(szE_may.1 (mayV_yes.1 hm2).e).len;rw[hU.s.1]at this;omega
 have KM0:=fun w (hb:Below W.heap.size W w)=>Meet_c a1 a2 n1 c1 n2 c2 l m w (hV.s.below hb) (hU.s.below hb) hn1 hn2
 rw[mtE_is,mtV_is,hm]at KM0
 replace KM0:=Lib.hid KM0
 have e4:¬(4:Int)=0:=by decide
 clear hW ho hk hV hz1 hm1 hU hz2 hm2 hn1 hn2 hm
 go_enter Tryz.func126,Tryz.ntmps126
 go_wp2_with fail
 refine(KO.out _ hbw0).mono ?_
 rintro e w1 ⟨rfl,hq⟩
 have hB1:=hB0.below hq
 have hb1:=hb0.trans (hq.mono hb0.size)
 clear hB0 hb0 hq hbw0
 have v0:w1.cell? ⟨W.heap.size+1,0,none⟩=some (.slice a1 n1 c1):=by rw[cell_of_row _ _ 0 _ _ _ hB1.v];rfl
 have v1:w1.cell? ⟨W.heap.size+1,1,none⟩=some (.slice b1 m1 d1):=by rw[cell_of_row _ _ 1 _ _ _ hB1.v];rfl
 have z0:=hB1.r.c0
 have z1:=hB1.r.c1
 have f0:=hB1.r.f 0
 have f1:=hB1.r.f 1
 have z2:=hB1.e.cell
 have f2:=hB1.e.frozen
 go_wp2_with fail
 refine(KV.out _ hb1).mono ?_
 rintro e w2 ⟨rfl,hq⟩
 have hB2:=hB1.below hq
 have hb2:=hb1.trans (hq.mono hb1.size)
 clear hB1 hb1 hq v0 v1 z0 z1 f0 f1 z2 f2
 have v0:w2.cell? ⟨W.heap.size+2,0,none⟩=some (.slice a2 n2 c2):=by rw[cell_of_row _ _ 0 _ _ _ hB2.u];rfl
 have v1:w2.cell? ⟨W.heap.size+2,1,none⟩=some (.slice b2 m2 d2):=by rw[cell_of_row _ _ 1 _ _ _ hB2.u];rfl
 go_wp2_with fail
 refine(KU.out _ hb2).mono ?_
 rintro e w3 ⟨rfl,hq⟩
 have hB3:=hB2.below hq
 have hb3:=hb2.trans (hq.mono hb2.size)
 clear hB2 hb2 hq v0 v1
 have v0:w3.cell? ⟨W.heap.size+1,0,none⟩=some (.slice a1 n1 c1):=by rw[cell_of_row _ _ 0 _ _ _ hB3.v];rfl
 have v1:w3.cell? ⟨W.heap.size+2,0,none⟩=some (.slice a2 n2 c2):=by rw[cell_of_row _ _ 0 _ _ _ hB3.u];rfl
 have KM:=Lib.hid (KM0.out w3 hb3)
 go_wp2_with fail
 refine KM.out.mono ?_
 rintro e w4 ⟨a3,n3,c3,rfl,hsl,hn3,hnc3,hcm3,hq⟩
 have hB4:=hB3.below hq
 have hb4:=hb3.trans (hq.mono hb3.size)
 clear hB3 hb3 hq v0 v1 KM
 have r0:=hB4.r.c0
 have r1:=hB4.r.c1
 have f0:=hB4.r.f 0
 have f1:=hB4.r.f 1
 have r2:=hB4.e.cell
 have f2:=hB4.e.frozen
 have HB:=Lib.hid hB4
 have Hb:=Lib.hid hb4
 clear hB4 hb4
 go_wp2_with fail
 obtain⟨h1,h2,h3⟩:=HB.out.fails Hb.out rfl 4
 have b0:=h1.c0
 have b1:=h1.c1
 have b2:=h2.cell
 exact bodyPost_ret (v:=.tuple #[.agg #[.slice none 0 0,.slice none 0 0],.int .i64 4]) (by simp[results,Tryz.results126,go_sem,b0,b1,b2]) rfl h3
theorem SDyad_is {op:ByteArray} {a1 b1 a2 b2:Option Addr} {n1 c1 m1 d1 n2 c2 m2 d2:Nat} {l m:List Int} {es fs:List ByteArray} {o p:Option Ar} (W:World) (hW:SC W) (ho:op.size≤maxLen)
 (hV:Vl W a1 n1 b1 m1 l es) (hU:Vl W a2 n2 b2 m2 m fs) (hz1:∀j,j<m1→(es.getD j ByteArray.empty).size≤maxLen) (hz2:∀j,j<m2→(fs.getD j ByteArray.empty).size≤maxLen) (A1:AIs l es o) (A2:AIs m fs p):
 Calls Tryz.prog 126 #[.string op,.agg #[.slice a1 n1 c1,.slice b1 m1 d1],.agg #[.slice a2 n2 c2,.slice b2 m2 d2]] W
  (AEnd (TS (dyA (kdL op.data.toList) o p).1).1 (TS (dyA (kdL op.data.toList) o p).1).2 (dyA (kdL op.data.toList) o p).2 W):=by
 by_cases hk:kdL op.data.toList<11
 · cases o with
   |none=>
    rw[dyA_arg (by rfl)]
    exact SDyad_one W hW ho hk hV hz1 A1 (m:=m) (fs:=fs)
   |some q=>
   have hm1:=A1.may
   cases p with
   |none=>
    rw[dyA_arg (by rfl)]
    exact SDyad_two W hW ho hk hV hz1 hm1 hU hz2 A2
   |some r=>
   have hm2:=A2.may
   obtain⟨l',xs⟩:=q
   obtain⟨m',ys⟩:=r
   obtain⟨g1,_⟩:=A1.len
   obtain⟨g2,_⟩:=A2.len
   simp only at g1 g2
   subst g1 g2
   rcases meE_cases l' m' with hm|hm
   · rw[dyA_two hk hm]
     refine(SDyad_meet W hW ho hk hV hU hz1 hz2 A1 A2 hm).mono ?_
     rintro e w (⟨zs,h1,h2⟩|⟨ec,h1,h2⟩)
     · rw[h1];exact h2
     · rw[h1];exact h2
   · rw[dyA_shape hk (by rw[hm];decide)]
     exact SDyad_apart W hW ho hk hV hz1 hm1 hU hz2 hm2 hm
 · rw[dyA_none hk]
   exact SDyad_sign W hW ho hk
end Go.Proofs.YtcfbjdplhgdpfaaGreatDoor
namespace Go.Proofs.YtcfbjdplhgdpfaaGreatDoor
set_option linter.unusedVariables false
set_option linter.unusedSimpArgs false
open Go.RowKit
def mnS (k:Nat) (xs:List Int) (i:Nat):List Value:=valsS (((xs.take i).map (mnZ k)).map S)
theorem mnS_succ {k i:Nat} {xs:List Int} (hi:i<xs.length):mnS k xs i++[.string (S (mnZ k (xs.getD i 0)))]=mnS k xs (i+1):=by
 unfold mnS
 rw[List.take_succ_eq_append_getElem hi,List.map_append,List.map_append,List.getD_eq_getElem?_getD,List.getElem?_eq_getElem hi]
 exact(valsS_snoc _ _).symm
theorem mnS_all {k:Nat} {xs:List Int} {n:Nat} (h:n=xs.length):mnS k xs n=valsS ((xs.map (mnZ k)).map S):=by
 unfold mnS
 rw[h,List.take_of_length_le (Nat.le_refl _)]
theorem mono_is {op:ByteArray} (ho:op.size≤maxLen) (hk:kmL op.data.toList<3) {x:Int} (hx:x.natAbs<lim):MnIs op (S x) (S (mnZ (kmL op.data.toList) x)) 0:=by
 have h:=mn_ok ho (show Is (S x) (some x)from⟨rfl,hx⟩)
 simp only[mnO,mnI_ok hk]at h
 exact h
theorem fails_val {w5 w0:World} {g:Nat} (h:Bx w5 g none 0 0 none 0 0) (hb:Below w0.heap.size w0 w5) (hg:w0.heap.size≤g) (ec:Int):
 Bx ((w5.setCell ⟨g,0,none⟩ (.slice none 0 0)).setCell ⟨g,1,none⟩ (.slice none 0 0)) g none 0 0 none 0 0
 ∧AEnd [] [] ec w0 (.returned (.tuple #[.agg #[.slice none 0 0,.slice none 0 0],.int .i64 ec])) ((w5.setCell ⟨g,0,none⟩ (.slice none 0 0)).setCell ⟨g,1,none⟩ (.slice none 0 0)):=
 ⟨h.set none 0 0 none 0 0,none,0,0,none,0,0,rfl,Vl.none_ _,⟨by omega,by unfold maxLen;omega,by omega,by unfold maxLen;omega⟩,below_made hb hg _ _⟩
theorem Bx.newS (W:World) (g:Nat) (hg:W.heap.size=g) (a:Option Addr) (n c:Nat) (b:Option Addr) (m d:Nat):Bx (W.alloc (.cells #[.slice a n c,.slice b m d] 25)) g a n c b m d:=by rw[←hg];exact Bx.new W a n c b m d
theorem MsSign_is (op:ByteArray) (ho:op.size≤maxLen) (w:World):Calls Tryz.prog 144 #[.string op,.string ⟨#[45,126,42]⟩] w (BoolEnd (decide (kmL op.data.toList<3)) w):=by
 have K2:=isSign_is op ⟨#[45,126,42]⟩ ho w
 rw[show(⟨#[45,126,42]⟩:ByteArray).data.toList=[45,126,42]from rfl,sig_km]at K2
 exact K2
section
variable {op:ByteArray} {a b:Option Addr} {n c m d:Nat} {l:List Int} {es:List ByteArray}
theorem SMonad_sign (W:World) (hW:SM W) (ho:op.size≤maxLen) (hk:¬kmL op.data.toList<3):
 Calls Tryz.prog 109 #[.string op,.agg #[.slice a n c,.slice b m d]] W (AEnd [] [] 1 W):=by
 have KS:=fun w=>MsSign_is op ho w
 rw[decide_eq_false hk]at KS
 replace KS:=Lib.hid KS
 have hb0:Below W.heap.size W ((W.alloc (.cells #[.slice a n c,.slice b m d] 25)).alloc (.cells #[.slice none 0 0,.slice none 0 0] 25)):=((Below.refl _ _).alloc (Nat.le_refl _) _).alloc (by simp) _
 have hR:=Bx.newS (W.alloc (.cells #[.slice a n c,.slice b m d] 25)) (W.heap.size+1) (by simp) none 0 0 none 0 0
 have KM:=Lib.hid (ms_ok _ (hW.below hb0))
 clear hW ho hk
 go_enter Tryz.func109,Tryz.ntmps109
 go_wp2_with fail
 refine KM.out.mono ?_
 rintro e w1 ⟨rfl,hq⟩
 have hR1:=hR.below hq hR.lt
 have hb1:=hb0.trans (hq.mono hb0.size)
 clear hR hb0 hq KM
 go_wp2_with fail
 refine(KS.out _).mono ?_
 rintro e w2 ⟨rfl,hq⟩
 have hR2:=hR1.below hq hR1.lt
 have hb2:=hb1.trans (hq.mono hb1.size)
 clear hR1 hb1 hq
 have r0:=hR2.c0
 have r1:=hR2.c1
 have f0:=hR2.f 0
 have f1:=hR2.f 1
 have HR:=Lib.hid hR2
 have HB:=Lib.hid hb2
 clear hR2 hb2
 go_wp2_with fail
 obtain⟨h1,h3⟩:=fails_val HR.out HB.out (by omega) 1
 have b0:=h1.c0
 have b1:=h1.c1
 exact bodyPost_ret (v:=.tuple #[.agg #[.slice none 0 0,.slice none 0 0],.int .i64 1]) (by simp[results,Tryz.results109,go_sem,b0,b1]) rfl h3
theorem SMonad_no (W:World) (hW:SM W) (ho:op.size≤maxLen) (hk:kmL op.data.toList<3) (hV:Vl W a n b m l es) (hz:∀j,j<m→(es.getD j ByteArray.empty).size≤maxLen) (hm:mayV l es=false):
 Calls Tryz.prog 109 #[.string op,.agg #[.slice a n c,.slice b m d]] W (AEnd [] [] 1 W):=by
 have KS:=fun w=>MsSign_is op ho w
 rw[decide_eq_true hk]at KS
 replace KS:=Lib.hid KS
 have KV:=fun w (hb:Below W.heap.size W w)=>VMay_is (c:=c) (d:=d) w (hV.below hb) hz
 rw[hm]at KV
 replace KV:=Lib.hid KV
 have hb0:Below W.heap.size W ((W.alloc (.cells #[.slice a n c,.slice b m d] 25)).alloc (.cells #[.slice none 0 0,.slice none 0 0] 25)):=((Below.refl _ _).alloc (Nat.le_refl _) _).alloc (by simp) _
 have hA:=(Bx.new W a n c b m d).alloc (.cells #[.slice none 0 0,.slice none 0 0] 25)
 have hR:=Bx.newS (W.alloc (.cells #[.slice a n c,.slice b m d] 25)) (W.heap.size+1) (by simp) none 0 0 none 0 0
 have KM:=Lib.hid (ms_ok _ (hW.below hb0))
 clear hW ho hk hV hz hm
 go_enter Tryz.func109,Tryz.ntmps109
 go_wp2_with fail
 refine KM.out.mono ?_
 rintro e w1 ⟨rfl,hq⟩
 have hA1:=hA.below hq hA.lt
 have hR1:=hR.below hq hR.lt
 have hb1:=hb0.trans (hq.mono hb0.size)
 clear hA hR hb0 hq KM
 go_wp2_with fail
 refine(KS.out _).mono ?_
 rintro e w2 ⟨rfl,hq⟩
 have hA2:=hA1.below hq hA1.lt
 have hR2:=hR1.below hq hR1.lt
 have hb2:=hb1.trans (hq.mono hb1.size)
 clear hA1 hR1 hb1 hq
 have x0:=hA2.c0
 have x1:=hA2.c1
 go_wp2_with fail
 refine(KV.out _ hb2).mono ?_
 rintro e w3 ⟨rfl,hq⟩
 have hR3:=hR2.below hq hR2.lt
 have hb3:=hb2.trans (hq.mono hb2.size)
 clear hA2 hR2 hb2 hq x0 x1
 have r0:=hR3.c0
 have r1:=hR3.c1
 have f0:=hR3.f 0
 have f1:=hR3.f 1
 have HR:=Lib.hid hR3
 have HB:=Lib.hid hb3
 clear hR3 hb3
 go_wp2_with fail
 obtain⟨h1,h3⟩:=fails_val HR.out HB.out (by omega) 1
 have b0:=h1.c0
 have b1:=h1.c1
 exact bodyPost_ret (v:=.tuple #[.agg #[.slice none 0 0,.slice none 0 0],.int .i64 1]) (by simp[results,Tryz.results109,go_sem,b0,b1]) rfl h3
theorem SMonad_yes {xs:List Int} (W:World) (hW:SM W) (ho:op.size≤maxLen) (hk:kmL op.data.toList<3) (hV:Vl W a n b m l es) (hz:∀j,j<m→(es.getD j ByteArray.empty).size≤maxLen) (A1:AIs l es (some (l,xs))):
 Calls Tryz.prog 109 #[.string op,.agg #[.slice a n c,.slice b m d]] W (AEnd l ((xs.map (mnZ (kmL op.data.toList))).map S) 0 W):=by
 obtain⟨_,e1,s1,p1,q1⟩:=A1.len
 simp only at e1 p1 q1
 have hn:n≤20:=by have:=(szE_may.1 s1).len;rw[hV.s.1]at this;omega
 have hm4:m≤4096:=by have:=(szE_may.1 s1).pr;have:=hV.t.1;omega
 have hmx:m=xs.length:=by have:=hV.t.1;omega
 have KS:=fun w=>MsSign_is op ho w
 rw[decide_eq_true hk]at KS
 replace KS:=Lib.hid KS
 have KV:=fun w (hb:Below W.heap.size W w)=>VMay_is (c:=c) (d:=d) w (hV.below hb) hz
 rw[A1.may]at KV
 replace KV:=Lib.hid KV
 have KO:=Lib.hid (fun x (hx:x∈xs)=>mono_is ho hk (q1 x hx))
 have KC:=Lib.hid (fun w (hb:Below W.heap.size W w)=>Clone_c a n c l w (hV.s.below hb) hn)
 have HX:=Lib.hid A1.2.1
 have HM:=Lib.hid hmx
 have HV:=Lib.hid hV
 have HW:=Lib.hid hW
 have hb0:Below W.heap.size W ((W.alloc (.cells #[.slice a n c,.slice b m d] 25)).alloc (.cells #[.slice none 0 0,.slice none 0 0] 25)):=((Below.refl _ _).alloc (Nat.le_refl _) _).alloc (by simp) _
 have hA:=(Bx.new W a n c b m d).alloc (.cells #[.slice none 0 0,.slice none 0 0] 25)
 have hR:=Bx.newS (W.alloc (.cells #[.slice a n c,.slice b m d] 25)) (W.heap.size+1) (by simp) none 0 0 none 0 0
 have KM:=Lib.hid (ms_ok _ (hW.below hb0))
 generalize kmL op.data.toList=k at*
 clear hW ho hk hV hz A1 e1 p1 q1 hmx s1
 go_enter Tryz.func109,Tryz.ntmps109
 go_wp2_with fail
 refine KM.out.mono ?_
 rintro e w1 ⟨rfl,hq⟩
 have hA1:=hA.below hq hA.lt
 have hR1:=hR.below hq hR.lt
 have hb1:=hb0.trans (hq.mono hb0.size)
 clear hA hR hb0 hq KM
 go_wp2_with fail
 refine(KS.out _).mono ?_
 rintro e w2 ⟨rfl,hq⟩
 have hA2:=hA1.below hq hA1.lt
 have hR2:=hR1.below hq hR1.lt
 have hb2:=hb1.trans (hq.mono hb1.size)
 clear hA1 hR1 hb1 hq
 have x0:=hA2.c0
 have x1:=hA2.c1
 go_wp2_with fail
 refine(KV.out _ hb2).mono ?_
 rintro e w3 ⟨rfl,hq⟩
 have hA3:=hA2.below hq hA2.lt
 have hR3:=hR2.below hq hR2.lt
 have hb3:=hb2.trans (hq.mono hb2.size)
 clear hA2 hR2 hb2 hq x0 x1
 have x0:=hA3.c0
 have x1:=hA3.c1
 have lR:W.heap.size+1<w3.heap.size:=hR3.lt
 go_wp2_with fail
 go_loopw [6,24] (fun ev iv wr=>∃i:Nat,iv=.int .i64 i∧i≤m∧wr.ownsRow w3.heap.size 9 1 ev i (mnS k xs i)∧Below w3.heap.size w3 wr) (fun _ iv _=>m-(intOf iv).toNat)
 case atStart=>exact⟨0,rfl,by omega,World.ownsRow_nil _ _ _ _,Below.refl _ _⟩
 case round=>
  obtain⟨i,rfl,hi,ho,hb⟩:=hrel
  by_cases hlt:i<m
  · have e2:(i:Int)<(m:Int):=by omega
    have hbW:=hb3.trans (hb.mono hb3.size)
    have hVr:=HV.out.below hbW
    obtain⟨gb,off,rfl,hc⟩:=hVr.t.2 (by omega)
    have hck:=hc i hlt
    have hxi:i<xs.length:=by have:=HM.out;omega
    rw[HX.out,getD_S hxi]at hck
    have KX:=Lib.hid (KO.out (xs.getD i 0) (by rw[List.getD_eq_getElem?_getD,List.getElem?_eq_getElem hxi];exact List.getElem_mem hxi) wr (HW.out.below hbW).sc)
    have HTK:=Lib.hid (mnS_succ (k:=k) hxi)
    have HO:=Lib.hid ho
    have HB:=Lib.hid hb
    generalize S (mnZ k (xs.getD i 0))=tk at*
    generalize S (xs.getD i 0)=sx at*
    clear ho hb hc hVr hbW x0 x1 hA3 hR3 hb3
    go_wp2_with fail
    refine KX.out.mono ?_
    rintro e w5 ⟨rfl,hb5⟩
    have HO5:=Lib.hid (own_below HO.out hb5)
    have HB5:=Lib.hid (HB.out.trans (hb5.mono HB.out.size))
    have hsz:=HB5.out.size
    clear hb5 KX HO HB hck
    obtain⟨av,cv,rfl⟩:=own_form HO5.out
    obtain⟨i0,hi0,hz0,hz1,hz2⟩:=info_parts infoStr
    go_wp2_with (at_builtin;refine wpList_append_own _ rfl _ _ 23 rfl (w3.heap.size) 9 i0 (.string ⟨#[]⟩) 1 16 Tryz.underlying23 hi0 hz0 hz1 hz2 rfl (by decide) _ _ _ rfl (HO5.out.alloc _) ⟨w5.heap.size,0,none⟩ 1 1 [.string tk] rfl rfl (cell_one_new _ _ _) (by simp[Value.oneCell']) (by unfold maxLen;omega) (by omega) (by simp;omega) ?_;intro v1 w6 hown1 hg1 _)
    have hb6:Below w3.heap.size w3 w6:=(HB5.out.alloc HB5.out.size _).grown hg1 (by simp;omega) (fun q hq=>by have:=(HO5.out.lt q hq).1;omega)
    rw[HTK.out]at hown1
    have HO6:=Lib.hid hown1
    have HB6:=Lib.hid hb6
    clear hown1 hb6 hg1 HO5 HB5
    go_wp2_with fail
    go_roundw
    case rel=>exact⟨i+1,by go_num,by omega,HO6.out,HB6.out⟩
    case measure=>simp[intOf];omega
  have e2:¬(i:Int)<(m:Int):=by omega
  obtain rfl:i=m:=by omega
  obtain⟨av,cv,rfl⟩:=own_form ho
  have hAr:=hA3.below hb hA3.lt
  have hRr:=hR3.below hb hR3.lt
  have hbr:=hb3.trans (hb.mono hb3.size)
  have KC1:=Lib.hid (KC.out wr hbr)
  rw[mnS_all HM.out]at ho
  clear x0 x1 hA3 hR3 hb3 KO KC KS KV hb
  have x0:=hAr.c0
  have x1:=hAr.c1
  go_wp2_with fail
  refine KC1.out.mono ?_
  rintro e w5 ⟨a',n',c',rfl,hs,hn',q1,q2,hq⟩
  have hR5:=hRr.below hq hRr.lt
  have ho5:=own_below ho hq
  have hb5:=hbr.trans (hq.mono hbr.size)
  clear hAr hRr ho hbr x0 x1 KC1 hq
  have r0:=hR5.c0
  have r1:=hR5.c1
  have f0:=hR5.f 0
  have f1:=hR5.f 1
  go_wp2_with fail
  have hB6:=hR5.set a' n' c' av i cv
  have b0:=hB6.c0
  have b1:=hB6.c1
  have hc:=own_caps ho5
  exact bodyPost_ret (v:=.tuple #[.agg #[.slice a' n' c',.slice av i cv],.int .i64 0]) (by simp[results,Tryz.results109,go_sem,b0,b1]) rfl
   ⟨a',n',c',av,i,cv,rfl,⟨hR5.sl hs _ _,hR5.st (own_st ho5) _ _,by omega⟩,⟨q1,q2,hc.1,hc.2⟩,below_made hb5 (by omega) _ _⟩
end
theorem SMonad_is {op:ByteArray} {a b:Option Addr} {n c m d:Nat} {l:List Int} {es:List ByteArray} {o:Option Ar} (W:World) (hW:SM W) (ho:op.size≤maxLen) (hV:Vl W a n b m l es) (hz:∀j,j<m→(es.getD j ByteArray.empty).size≤maxLen) (A1:AIs l es o):
 Calls Tryz.prog 109 #[.string op,.agg #[.slice a n c,.slice b m d]] W (AEnd (TS (mnA (kmL op.data.toList) o).1).1 (TS (mnA (kmL op.data.toList) o).1).2 (mnA (kmL op.data.toList) o).2 W):=by
 by_cases hk:kmL op.data.toList<3
 · cases o with
   |none=>exact SMonad_no W hW ho hk hV hz A1
   |some q=>
    obtain⟨l',xs⟩:=q
    obtain⟨g1,_⟩:=A1.len
    simp only at g1
    subst g1
    have e:mnA (kmL op.data.toList) (some (l',xs))=(some (l',xs.map (mnZ (kmL op.data.toList))),0):=by simp only[mnA];rw[if_neg (by omega)]
    rw[e]
    exact SMonad_yes W hW ho hk hV hz A1
 · have e:mnA (kmL op.data.toList) o=(none,1):=by
    cases o with
    |none=>rfl
    |some q=>obtain⟨l',xs⟩:=q;simp only[mnA];rw[if_pos hk]
   rw[e]
   exact SMonad_sign W hW ho hk
end Go.Proofs.YtcfbjdplhgdpfaaGreatDoor
namespace Go.Proofs.YtcfbjdplhgdpfaaGreatDoor
set_option linter.unusedVariables false
set_option linter.unusedSimpArgs false
open Go.RowKit
theorem ais_sz {l:List Int} {es:List ByteArray} {q:Ar} (h:AIs l es (some q)) {m:Nat} (hm:m=es.length):∀j,j<m→(es.getD j ByteArray.empty).size≤maxLen:=by
 intro j hj
 obtain⟨_,h2,_,h4⟩:=h
 have hl:j<q.2.length:=by rw[hm,h2,List.length_map]at hj;exact hj
 rw[h2,getD_S hl]
 exact(show Is (S (q.2.getD j 0)) (some (q.2.getD j 0))from⟨rfl,getD_bd h4 j⟩).size
theorem ts_sz {o:Option Ar} (h:AIs (TS o).1 (TS o).2 o) {m:Nat} (hm:m=(TS o).2.length):∀j,j<m→((TS o).2.getD j ByteArray.empty).size≤maxLen:=by
 cases o with
 |none=>
  intro j hj
  rw[hm]at hj
  exact absurd hj (by simp[TS])
 |some q=>exact ais_sz h hm
end Go.Proofs.YtcfbjdplhgdpfaaGreatDoor

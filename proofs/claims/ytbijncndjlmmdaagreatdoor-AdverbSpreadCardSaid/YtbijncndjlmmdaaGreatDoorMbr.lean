import Derived.Test.YtbijncndjlmmdaaGreatDoorMbq
import Derived.Test.YtbijncndjlmmdaaGreatDoorMbg
import Derived.Test.YtbijncndjlmmdaaGreatDoorMaj
import Derived.Lib.LaidU8
set_option maxHeartbeats 6400000
set_option maxRecDepth 100000
namespace Go.Proofs.YtbijncndjlmmdaaGreatDoor
set_option linter.unusedVariables false
set_option linter.unusedSimpArgs false
open Go.RowKit
def pS (j:Nat):ByteArray:=[(⟨#[43]⟩:ByteArray),(⟨#[45]⟩:ByteArray),(⟨#[42]⟩:ByteArray),(⟨#[38]⟩:ByteArray),(⟨#[124]⟩:ByteArray),(⟨#[60]⟩:ByteArray),(⟨#[62]⟩:ByteArray),(⟨#[61]⟩:ByteArray),(⟨#[126]⟩:ByteArray)].getD j ⟨#[]⟩
theorem pS_kd {j:Nat} (h:j<9):kdL (pS j).data.toList<11∧kdL (pS j).data.toList≠3∧kdL (pS j).data.toList≠4:=by
 obtain rfl|rfl|rfl|rfl|rfl|rfl|rfl|rfl|rfl:j=0∨j=1∨j=2∨j=3∨j=4∨j=5∨j=6∨j=7∨j=8:=by omega
 all_goals decide
theorem pS_sz {j:Nat} (h:j<9):(pS j).size≤maxLen:=by
 unfold maxLen
 obtain rfl|rfl|rfl|rfl|rfl|rfl|rfl|rfl|rfl:j=0∨j=1∨j=2∨j=3∨j=4∨j=5∨j=6∨j=7∨j=8:=by omega
 all_goals decide
theorem pRow_at (w:World) {j:Nat} (h:j<9):(w.alloc (.cells #[.string ⟨#[43]⟩,.string ⟨#[45]⟩,.string ⟨#[42]⟩,.string ⟨#[38]⟩,.string ⟨#[124]⟩,.string ⟨#[60]⟩,.string ⟨#[62]⟩,.string ⟨#[61]⟩,.string ⟨#[126]⟩] 9)).cell? ⟨w.heap.size,j,none⟩=some (.string (pS j)):=by
 rw[cell_of_row _ _ j _ _ _ (heap_alloc_new w _)]
 obtain rfl|rfl|rfl|rfl|rfl|rfl|rfl|rfl|rfl:j=0∨j=1∨j=2∨j=3∨j=4∨j=5∨j=6∨j=7∨j=8:=by omega
 all_goals rfl
theorem sg_dy {s:ByteArray} (h:kdL s.data.toList<11):sTwo s=fun x y=>dyA (kdL s.data.toList) (some x) (some y):=by
 funext x y
 show twoP s.data.toList (some x) (some y)=_
 unfold twoP
 rw[if_pos h]
theorem sg_neg1:sOne ⟨#[45]⟩=fun x=>mnA 0 (some x):=by
 funext x
 show oneP [45] (some x)=_
 unfold oneP
 rw[if_pos (by decide),show kmL [45]=0 by decide]
theorem aspread_s1 {x:Int} {a1 b1 a2 b2:Option Addr} {n1 c1 m1 d1 n2 c2 m2 d2:Nat} {l m:List Int} {es fs:List ByteArray} {o p:Option Ar} (W:World) (hW:PW W) (h1:Av W a1 n1 c1 b1 m1 d1 l es o) (h2:Av W a2 n2 c2 b2 m2 d2 m fs p) (hf:smB l es=false):
 Calls Tryz.prog 5 #[.int .u8 x,.agg #[.slice a1 n1 c1,.slice b1 m1 d1],.agg #[.slice a2 n2 c2,.slice b2 m2 d2]] W (TrueEnd W):=by
 have KS:=Lib.hid (fun w (hb:Below W.heap.size W w)=>ashown_is w (hW.below hb))
 have KF:=fun w (hb:Below W.heap.size W w)=>Small_is (h1.below hb)
 rw[hf]at KF
 replace KF:=Lib.hid KF
 have h:=lw_two W h1 h2
 clear hW h1 h2 hf
 go_enter Tryz.func5,Tryz.ntmps5
 go_wp2_with fail
 with_reducible refine(lw h (KS.out _ h.out.2.2.2.2)).mono ?_
 clear h
 rintro e w ⟨rfl,h⟩
 have xv:=h.out.2.2.1.c0
 have yv:=h.out.2.2.1.c1
 go_wp2_with fail
 with_reducible refine(lw h (KF.out _ h.out.2.2.2.2)).mono ?_
 clear h xv yv
 rintro e w ⟨rfl,h⟩
 go_wp2_with fail
 go_ret
 exact⟨rfl,h.out.2.2.2.2⟩
theorem aspread_s2 {x:Int} {a1 b1 a2 b2:Option Addr} {n1 c1 m1 d1 n2 c2 m2 d2:Nat} {l m:List Int} {es fs:List ByteArray} {o p:Option Ar} (W:World) (hW:PW W) (h1:Av W a1 n1 c1 b1 m1 d1 l es o) (h2:Av W a2 n2 c2 b2 m2 d2 m fs p) (hf:smB l es=true) (hf2:smB m fs=false):
 Calls Tryz.prog 5 #[.int .u8 x,.agg #[.slice a1 n1 c1,.slice b1 m1 d1],.agg #[.slice a2 n2 c2,.slice b2 m2 d2]] W (TrueEnd W):=by
 have KS:=Lib.hid (fun w (hb:Below W.heap.size W w)=>ashown_is w (hW.below hb))
 have KF:=fun w (hb:Below W.heap.size W w)=>Small_is (h1.below hb)
 rw[hf]at KF
 replace KF:=Lib.hid KF
 have KG:=fun w (hb:Below W.heap.size W w)=>Small_is (h2.below hb)
 rw[hf2]at KG
 replace KG:=Lib.hid KG
 have h:=lw_two W h1 h2
 clear hW h1 h2 hf hf2
 go_enter Tryz.func5,Tryz.ntmps5
 go_wp2_with fail
 with_reducible refine(lw h (KS.out _ h.out.2.2.2.2)).mono ?_
 clear h
 rintro e w ⟨rfl,h⟩
 have xv:=h.out.2.2.1.c0
 have yv:=h.out.2.2.1.c1
 go_wp2_with fail
 with_reducible refine(lw h (KF.out _ h.out.2.2.2.2)).mono ?_
 clear h xv yv
 rintro e w ⟨rfl,h⟩
 have xw:=h.out.1.c0
 have yw:=h.out.1.c1
 go_wp2_with fail
 with_reducible refine(lw h (KG.out _ h.out.2.2.2.2)).mono ?_
 clear h xw yw
 rintro e w ⟨rfl,h⟩
 go_wp2_with fail
 go_ret
 exact⟨rfl,h.out.2.2.2.2⟩
theorem aspread_0 {x:Int} {a1 b1 a2 b2:Option Addr} {n1 c1 m1 d1 n2 c2 m2 d2:Nat} {l m:List Int} {es fs:List ByteArray} {o p:Option Ar} (W:World) (hW:PW W) (h1:Av W a1 n1 c1 b1 m1 d1 l es o) (h2:Av W a2 n2 c2 b2 m2 d2 m fs p) (hf:smB l es=true) (hf2:smB m fs=true) (hm:m1=0):
 Calls Tryz.prog 5 #[.int .u8 x,.agg #[.slice a1 n1 c1,.slice b1 m1 d1],.agg #[.slice a2 n2 c2,.slice b2 m2 d2]] W (TrueEnd W):=by
 subst hm
 have KS:=Lib.hid (fun w (hb:Below W.heap.size W w)=>ashown_is w (hW.below hb))
 have KF:=fun w (hb:Below W.heap.size W w)=>Small_is (h1.below hb)
 rw[hf]at KF
 replace KF:=Lib.hid KF
 have KG:=fun w (hb:Below W.heap.size W w)=>Small_is (h2.below hb)
 rw[hf2]at KG
 replace KG:=Lib.hid KG
 have h:=lw_two W h1 h2
 clear hW h1 h2 hf hf2
 go_enter Tryz.func5,Tryz.ntmps5
 go_wp2_with fail
 with_reducible refine(lw h (KS.out _ h.out.2.2.2.2)).mono ?_
 clear h
 rintro e w ⟨rfl,h⟩
 have xv:=h.out.2.2.1.c0
 have yv:=h.out.2.2.1.c1
 go_wp2_with fail
 with_reducible refine(lw h (KF.out _ h.out.2.2.2.2)).mono ?_
 clear h xv yv
 rintro e w ⟨rfl,h⟩
 have xw:=h.out.1.c0
 have yw:=h.out.1.c1
 go_wp2_with fail
 with_reducible refine(lw h (KG.out _ h.out.2.2.2.2)).mono ?_
 clear h xw yw
 rintro e w ⟨rfl,h⟩
 have xv:=h.out.2.2.1.c0
 have yv:=h.out.2.2.1.c1
 go_wp2_with fail
 go_ret
 exact⟨rfl,h.out.2.2.2.2⟩
theorem aspread_n1 {x:Int} {a1 b1 a2 b2:Option Addr} {n1 c1 m1 d1 n2 c2 m2 d2:Nat} {l m:List Int} {es fs:List ByteArray} {o p:Option Ar} {r:Option Ar} (W:World) (hW:PW W) (h1:Av W a1 n1 c1 b1 m1 d1 l es o) (h2:Av W a2 n2 c2 b2 m2 d2 m fs p) (j:Nat) (hj:x.tmod 9=(j:Int)) (hj9:j<9) (hx0:0≤x) (hx1:x≤255) (hf:smB l es=true) (hf2:smB m fs=true) (hm:0<m1) (hX:Av W a1 n1 c1 b2 m2 d2 l fs r) (ho:o=none):
 Calls Tryz.prog 5 #[.int .u8 x,.agg #[.slice a1 n1 c1,.slice b1 m1 d1],.agg #[.slice a2 n2 c2,.slice b2 m2 d2]] W (TrueEnd W):=by
 subst ho
 have KS:=Lib.hid (fun w (hb:Below W.heap.size W w)=>ashown_is w (hW.below hb))
 have KF:=fun w (hb:Below W.heap.size W w)=>Small_is (h1.below hb)
 rw[hf]at KF
 replace KF:=Lib.hid KF
 have KG:=fun w (hb:Below W.heap.size W w)=>Small_is (h2.below hb)
 rw[hf2]at KG
 replace KG:=Lib.hid KG
 have HX:=Lib.hid (fun w (hb:Below W.heap.size W w)=>hX.below hb)
 have HOR:=Lib.hid (fun w:World=>pRow_at w hj9)
 have hm3:((m1:Int)==0)=false:=beq_false_of_ne (by omega)
 have hj7:(j:Int)<9:=by omega
 have hjo:(pS j)=pS j:=rfl
 generalize pS j=op at*
 clear hjo
 have h:=lw_two W h1 h2
 clear hW h1 h2 hX hf hf2
 go_enter Tryz.func5,Tryz.ntmps5
 go_wp2_with fail
 with_reducible refine(lw h (KS.out _ h.out.2.2.2.2)).mono ?_
 clear h
 rintro e w ⟨rfl,h⟩
 have xv:=h.out.2.2.1.c0
 have yv:=h.out.2.2.1.c1
 go_wp2_with fail
 with_reducible refine(lw h (KF.out _ h.out.2.2.2.2)).mono ?_
 clear h xv yv
 rintro e w ⟨rfl,h⟩
 have xw:=h.out.1.c0
 have yw:=h.out.1.c1
 go_wp2_with fail
 with_reducible refine(lw h (KG.out _ h.out.2.2.2.2)).mono ?_
 clear h xw yw
 rintro e w ⟨rfl,h⟩
 obtain⟨wr,hwr⟩:∃z,z=w:=⟨_,rfl⟩
 subst hwr
 have p0:=h.out.2.2.1.c0
 have q0:=h.out.2.2.1.c1
 have p1:=h.out.1.c0
 have q1:=h.out.1.c1
 have hor:=HOR.out wr
 have hbr:Below wr.heap.size wr (wr.alloc (.cells #[.string ⟨#[43]⟩,.string ⟨#[45]⟩,.string ⟨#[42]⟩,.string ⟨#[38]⟩,.string ⟨#[124]⟩,.string ⟨#[60]⟩,.string ⟨#[62]⟩,.string ⟨#[61]⟩,.string ⟨#[126]⟩] 9)):=(Below.refl _ _).alloc (Nat.le_refl _) _
 replace h:=lw_on h hbr
 clear hbr
 have r0:=h.out.2.2.1.c0
 have s0:=h.out.2.2.1.c1
 have r1:=h.out.1.c0
 have s1:=h.out.1.c1
 replace h:=lw_box h (HX.out _ h.out.2.2.2.2)
 simp only[World.size_alloc]at h
 have xv:=h.out.2.2.2.2.1.c0
 have yv:=h.out.2.2.2.2.1.c1
 go_wp2_with fail
 with_reducible refine(lw h (VMay_av h.out.2.2.2.2.2.1)).mono ?_
 clear h xv yv
 rintro e w ⟨rfl,h⟩
 clear p0 p1 q0 q1 r0 r1 s0 s1 hor
 go_wp2_with fail
 go_ret
 exact⟨rfl,h.out.2.2.2.2.2.2⟩
theorem aspread_n2 {x:Int} {a1 b1 a2 b2:Option Addr} {n1 c1 m1 d1 n2 c2 m2 d2:Nat} {l m:List Int} {es fs:List ByteArray} {o p:Option Ar} {r:Option Ar} (W:World) (hW:PW W) (h1:Av W a1 n1 c1 b1 m1 d1 l es o) (h2:Av W a2 n2 c2 b2 m2 d2 m fs p) (j:Nat) (hj:x.tmod 9=(j:Int)) (hj9:j<9) (hx0:0≤x) (hx1:x≤255) (hf:smB l es=true) (hf2:smB m fs=true) (hm:0<m1) (hX:Av W a1 n1 c1 b2 m2 d2 l fs r) {q:Ar} (ho:o=some q) (hr:r=none):
 Calls Tryz.prog 5 #[.int .u8 x,.agg #[.slice a1 n1 c1,.slice b1 m1 d1],.agg #[.slice a2 n2 c2,.slice b2 m2 d2]] W (TrueEnd W):=by
 subst ho
 subst hr
 have KS:=Lib.hid (fun w (hb:Below W.heap.size W w)=>ashown_is w (hW.below hb))
 have KF:=fun w (hb:Below W.heap.size W w)=>Small_is (h1.below hb)
 rw[hf]at KF
 replace KF:=Lib.hid KF
 have KG:=fun w (hb:Below W.heap.size W w)=>Small_is (h2.below hb)
 rw[hf2]at KG
 replace KG:=Lib.hid KG
 have HX:=Lib.hid (fun w (hb:Below W.heap.size W w)=>hX.below hb)
 have HOR:=Lib.hid (fun w:World=>pRow_at w hj9)
 have hm3:((m1:Int)==0)=false:=beq_false_of_ne (by omega)
 have hj7:(j:Int)<9:=by omega
 have hjo:(pS j)=pS j:=rfl
 generalize pS j=op at*
 clear hjo
 have h:=lw_two W h1 h2
 clear hW h1 h2 hX hf hf2
 go_enter Tryz.func5,Tryz.ntmps5
 go_wp2_with fail
 with_reducible refine(lw h (KS.out _ h.out.2.2.2.2)).mono ?_
 clear h
 rintro e w ⟨rfl,h⟩
 have xv:=h.out.2.2.1.c0
 have yv:=h.out.2.2.1.c1
 go_wp2_with fail
 with_reducible refine(lw h (KF.out _ h.out.2.2.2.2)).mono ?_
 clear h xv yv
 rintro e w ⟨rfl,h⟩
 have xw:=h.out.1.c0
 have yw:=h.out.1.c1
 go_wp2_with fail
 with_reducible refine(lw h (KG.out _ h.out.2.2.2.2)).mono ?_
 clear h xw yw
 rintro e w ⟨rfl,h⟩
 obtain⟨wr,hwr⟩:∃z,z=w:=⟨_,rfl⟩
 subst hwr
 have p0:=h.out.2.2.1.c0
 have q0:=h.out.2.2.1.c1
 have p1:=h.out.1.c0
 have q1:=h.out.1.c1
 have hor:=HOR.out wr
 have hbr:Below wr.heap.size wr (wr.alloc (.cells #[.string ⟨#[43]⟩,.string ⟨#[45]⟩,.string ⟨#[42]⟩,.string ⟨#[38]⟩,.string ⟨#[124]⟩,.string ⟨#[60]⟩,.string ⟨#[62]⟩,.string ⟨#[61]⟩,.string ⟨#[126]⟩] 9)):=(Below.refl _ _).alloc (Nat.le_refl _) _
 replace h:=lw_on h hbr
 clear hbr
 have r0:=h.out.2.2.1.c0
 have s0:=h.out.2.2.1.c1
 have r1:=h.out.1.c0
 have s1:=h.out.1.c1
 replace h:=lw_box h (HX.out _ h.out.2.2.2.2)
 simp only[World.size_alloc]at h
 have xv:=h.out.2.2.2.2.1.c0
 have yv:=h.out.2.2.2.2.1.c1
 go_wp2_with fail
 with_reducible refine(lw h (VMay_av h.out.2.2.2.2.2.1)).mono ?_
 clear h xv yv
 rintro e w ⟨rfl,h⟩
 clear p0 p1 q0 q1 r0 r1 s0 s1 hor
 have xx:=h.out.1.c0
 have yx:=h.out.1.c1
 go_wp2_with fail
 with_reducible refine(lw h (VMay_av h.out.2.1)).mono ?_
 clear h xx yx
 rintro e w ⟨rfl,h⟩
 go_wp2_with fail
 go_ret
 exact⟨rfl,h.out.2.2.2.2.2.2⟩
theorem aspread_yes {x:Int} {a1 b1 a2 b2:Option Addr} {n1 c1 m1 d1 n2 c2 m2 d2:Nat} {l m:List Int} {es fs:List ByteArray} {o p:Option Ar} {r:Option Ar} (W:World) (hW:PW W) (h1:Av W a1 n1 c1 b1 m1 d1 l es o) (h2:Av W a2 n2 c2 b2 m2 d2 m fs p) (j:Nat) (hj:x.tmod 9=(j:Int)) (hj9:j<9) (hx0:0≤x) (hx1:x≤255) (hf:smB l es=true) (hf2:smB m fs=true) (hm:0<m1) (hX:Av W a1 n1 c1 b2 m2 d2 l fs r) {q t:Ar} (ho:o=some q) (hr:r=some t):
 Calls Tryz.prog 5 #[.int .u8 x,.agg #[.slice a1 n1 c1,.slice b1 m1 d1],.agg #[.slice a2 n2 c2,.slice b2 m2 d2]] W (TrueEnd W):=by
 subst ho
 subst hr
 obtain⟨hk,hk3,hk4⟩:=pS_kd hj9
 have hz:=pS_sz hj9
 obtain⟨e1,e2⟩:q.1=l∧es=q.2.map S:=⟨h1.i.1,h1.i.2.1⟩
 obtain⟨e3,e4⟩:t.1=l∧fs=t.2.map S:=⟨hX.i.1,hX.i.2.1⟩
 have hs1:nI q.1≤4096:=smB_few (es:=es) (by rw[e1];exact hf)
 have hs2:nI t.1≤4096:=by rw[e3,←e1];exact hs1
 have hn1:∀z,some q=some z→nI z.1≤4096:=fun z e=>by injection e with e;subst e;exact hs1
 have hn2:∀z,some t=some z→nI z.1≤4096:=fun z e=>by injection e with e;subst e;exact hs2
 have hq0:q.2≠[]:=fun e=>by have:=h1.v.t.1;rw[e2,e]at this;simp at this;omega
 have R1:=h1.i.rok
 have R2:=hX.i.rok
 have BL:boA (sTwo (pS j)) (some q) (some t)=dyA (kdL (pS j).data.toList) (some q) (some t):=by
  rw[sg_dy hk]
  obtain⟨q1,q2⟩:=q
  obtain⟨t1,t2⟩:=t
  obtain rfl:q1=l:=e1
  obtain rfl:t1=q1:=e3
  exact both_law hk3 hk4 hk R1 R2 hq0
 have TL:twoP (pS j).data.toList (some q) (some t)=dyA (kdL (pS j).data.toList) (some q) (some t):=by
  unfold twoP
  rw[if_pos hk]
 have EL:eaA (sOne ⟨#[45]⟩) (some q)=mnA 0 (some q):=by
  rw[sg_neg1]
  exact each_law (by decide) R1 hq0
 have OL:oneP (⟨#[45]⟩:ByteArray).data.toList (some q)=mnA 0 (some q):=congrFun sg_neg1 q
 have V1:=sign_verb hW hz
 have V2:=sign_verb hW (s:=⟨#[45]⟩) (by decide)
 have P1:=fun w (hb:Below W.heap.size W w)=>both_is V1 hb (h1.below hb) (hX.below hb) hn1 hn2
 have P2:=fun w (hb:Below W.heap.size W w)=>PTwo_is (h1.below hb) (hX.below hb) (hW.below hb) hz
 have P3:=fun w (hb:Below W.heap.size W w)=>each_is V2 hb (h1.below hb) hn1
 have P4:=fun w (hb:Below W.heap.size W w)=>POne_is (s:=⟨#[45]⟩) (h1.below hb) (hW.below hb) (by decide)
 rw[BL]at P1
 rw[TL]at P2
 rw[EL]at P3
 rw[OL]at P4
 clear BL TL EL OL V1 V2 hk hk3 hk4 hz e1 e2 e3 e4 hs1 hs2 hn1 hn2 hq0 R1 R2
 generalize dyA (kdL (pS j).data.toList) (some q) (some t)=t1 at P1 P2
 obtain⟨u1,k1⟩:=t1
 generalize mnA 0 (some q)=t2 at P3 P4
 obtain⟨u2,k2⟩:=t2
 replace P1:=Lib.hid P1
 replace P2:=Lib.hid P2
 replace P3:=Lib.hid P3
 replace P4:=Lib.hid P4
 have KS:=Lib.hid (fun w (hb:Below W.heap.size W w)=>ashown_is w (hW.below hb))
 have KF:=fun w (hb:Below W.heap.size W w)=>Small_is (h1.below hb)
 rw[hf]at KF
 replace KF:=Lib.hid KF
 have KG:=fun w (hb:Below W.heap.size W w)=>Small_is (h2.below hb)
 rw[hf2]at KG
 replace KG:=Lib.hid KG
 have HX:=Lib.hid (fun w (hb:Below W.heap.size W w)=>hX.below hb)
 have HOR:=Lib.hid (fun w:World=>pRow_at w hj9)
 have hm3:((m1:Int)==0)=false:=beq_false_of_ne (by omega)
 have hj7:(j:Int)<9:=by omega
 have hjo:(pS j)=pS j:=rfl
 generalize pS j=op at*
 clear hjo
 have h:=lw_two W h1 h2
 clear hW h1 h2 hX hf hf2
 go_enter Tryz.func5,Tryz.ntmps5
 go_wp2_with fail
 with_reducible refine(lw h (KS.out _ h.out.2.2.2.2)).mono ?_
 clear h
 rintro e w ⟨rfl,h⟩
 have xv:=h.out.2.2.1.c0
 have yv:=h.out.2.2.1.c1
 go_wp2_with fail
 with_reducible refine(lw h (KF.out _ h.out.2.2.2.2)).mono ?_
 clear h xv yv
 rintro e w ⟨rfl,h⟩
 have xw:=h.out.1.c0
 have yw:=h.out.1.c1
 go_wp2_with fail
 with_reducible refine(lw h (KG.out _ h.out.2.2.2.2)).mono ?_
 clear h xw yw
 rintro e w ⟨rfl,h⟩
 obtain⟨wr,hwr⟩:∃z,z=w:=⟨_,rfl⟩
 subst hwr
 have p0:=h.out.2.2.1.c0
 have q0:=h.out.2.2.1.c1
 have p1:=h.out.1.c0
 have q1:=h.out.1.c1
 have hor:=HOR.out wr
 have hbr:Below wr.heap.size wr (wr.alloc (.cells #[.string ⟨#[43]⟩,.string ⟨#[45]⟩,.string ⟨#[42]⟩,.string ⟨#[38]⟩,.string ⟨#[124]⟩,.string ⟨#[60]⟩,.string ⟨#[62]⟩,.string ⟨#[61]⟩,.string ⟨#[126]⟩] 9)):=(Below.refl _ _).alloc (Nat.le_refl _) _
 replace h:=lw_on h hbr
 clear hbr
 have r0:=h.out.2.2.1.c0
 have s0:=h.out.2.2.1.c1
 have r1:=h.out.1.c0
 have s1:=h.out.1.c1
 replace h:=lw_box h (HX.out _ h.out.2.2.2.2)
 simp only[World.size_alloc]at h
 have xv:=h.out.2.2.2.2.1.c0
 have yv:=h.out.2.2.2.2.1.c1
 go_wp2_with fail
 with_reducible refine(lw h (VMay_av h.out.2.2.2.2.2.1)).mono ?_
 clear h xv yv
 rintro e w ⟨rfl,h⟩
 clear p0 p1 q0 q1 r0 r1 s0 s1 hor
 have xx:=h.out.1.c0
 have yx:=h.out.1.c1
 go_wp2_with fail
 with_reducible refine(lw h (VMay_av h.out.2.1)).mono ?_
 clear h xx yx
 rintro e w ⟨rfl,h⟩
 have xv:=h.out.2.2.2.2.1.c0
 have yv:=h.out.2.2.2.2.1.c1
 have xx:=h.out.1.c0
 have yx:=h.out.1.c1
 go_wp2_with fail
 with_reducible refine(lw_M h (P1.out _ h.out.2.2.2.2.2.2)).mono ?_
 clear h xv yv xx yx
 rintro e w ⟨ae,ne,ce,be,me,de,rfl,h⟩
 have xv:=h.out.2.2.2.2.2.2.1.c0
 have yv:=h.out.2.2.2.2.2.2.1.c1
 have xx:=h.out.2.2.1.c0
 have yx:=h.out.2.2.1.c1
 go_wp2_with fail
 with_reducible refine(lw_M h (P2.out _ h.out.2.2.2.2.2.2.2.2)).mono ?_
 clear h xv yv xx yx
 rintro e w ⟨af,nf,cf,bf,mf,df,rfl,h⟩
 have xv:=h.out.2.2.2.2.2.2.2.2.1.c0
 have yv:=h.out.2.2.2.2.2.2.2.2.1.c1
 go_wp2_with fail
 with_reducible refine(lw_M h (P3.out _ h.out.2.2.2.2.2.2.2.2.2.2)).mono ?_
 clear h xv yv
 rintro e w ⟨ag,ng,cg,bg,mg,dg,rfl,h⟩
 have xv:=h.out.2.2.2.2.2.2.2.2.2.2.1.c0
 have yv:=h.out.2.2.2.2.2.2.2.2.2.2.1.c1
 go_wp2_with fail
 with_reducible refine(lw_M h (P4.out _ h.out.2.2.2.2.2.2.2.2.2.2.2.2)).mono ?_
 clear h xv yv
 rintro e w ⟨aj,nj,cj,bj,mj,dj,rfl,h⟩
 have xe:=h.out.2.2.2.2.2.2.1.c0
 have ye:=h.out.2.2.2.2.2.2.1.c1
 have xf:=h.out.2.2.2.2.1.c0
 have yf:=h.out.2.2.2.2.1.c1
 go_wp2_with fail
 with_reducible refine(lw h (VSame_av h.out.2.2.2.2.2.2.2.1.v h.out.2.2.2.2.2.1.v h.out.2.2.2.2.2.2.2.1.ntt h.out.2.2.2.2.2.1.ntt rfl rfl)).mono ?_
 clear h xe ye xf yf
 rintro e w ⟨rfl,h⟩
 have xg:=h.out.2.2.1.c0
 have yg:=h.out.2.2.1.c1
 have xj:=h.out.1.c0
 have yj:=h.out.1.c1
 go_wp2_with fail
 with_reducible refine(lw h (VSame_av h.out.2.2.2.1.v h.out.2.1.v h.out.2.2.2.1.ntt h.out.2.1.ntt rfl rfl)).mono ?_
 clear h xg yg xj yj
 rintro e w ⟨rfl,h⟩
 go_wp2_with fail
 go_ret
 exact⟨rfl,h.out.2.2.2.2.2.2.2.2.2.2.2.2.2.2⟩
theorem aspread_any {x:Int} {a1 b1 a2 b2:Option Addr} {n1 c1 m1 d1 n2 c2 m2 d2:Nat} {l m:List Int} {es fs:List ByteArray} (W:World) (hW:PW W) (hx0:0≤x) (hx1:x≤255) (hV:Vl W a1 n1 b1 m1 l es) (hC:Cp n1 c1 m1 d1) (hZ:∀j,j<m1→(es.getD j ByteArray.empty).size≤maxLen) (hV2:Vl W a2 n2 b2 m2 m fs) (hC2:Cp n2 c2 m2 d2) (hZ2:∀j,j<m2→(fs.getD j ByteArray.empty).size≤maxLen):
 Calls Tryz.prog 5 #[.int .u8 x,.agg #[.slice a1 n1 c1,.slice b1 m1 d1],.agg #[.slice a2 n2 c2,.slice b2 m2 d2]] W (TrueEnd W):=by
 obtain⟨o,ho⟩:=ais_ex l es
 obtain⟨p,hp⟩:=ais_ex m fs
 obtain⟨r,hr⟩:=ais_ex l fs
 have h1:Av W a1 n1 c1 b1 m1 d1 l es o:=⟨hV,hC,hZ,ho⟩
 have h2:Av W a2 n2 c2 b2 m2 d2 m fs p:=⟨hV2,hC2,hZ2,hp⟩
 have hX:Av W a1 n1 c1 b2 m2 d2 l fs r:=⟨⟨hV.s,hV2.t,hV2.mm⟩,⟨hC.nc,hC.cm,hC2.md,hC2.dm⟩,hZ2,hr⟩
 have e:x.tmod 9=x%9:=Int.tmod_eq_emod_of_nonneg hx0
 have hj:x.tmod 9=(((x%9).toNat:Nat):Int):=by rw[e];omega
 rcases Bool.eq_false_or_eq_true (smB l es)with h|h
 · rcases Bool.eq_false_or_eq_true (smB m fs)with g|g
   · rcases Nat.eq_zero_or_pos m1 with hm|hm
     · exact aspread_0 W hW h1 h2 h g hm
     · cases o with
       |none=>exact aspread_n1 W hW h1 h2 _ hj (by omega) hx0 hx1 h g hm hX rfl
       |some q=>
        cases r with
        |none=>exact aspread_n2 W hW h1 h2 _ hj (by omega) hx0 hx1 h g hm hX rfl rfl
        |some t=>exact aspread_yes W hW h1 h2 _ hj (by omega) hx0 hx1 h g hm hX rfl rfl
   · exact aspread_s2 W hW h1 h2 h g
 · exact aspread_s1 W hW h1 h2 h
end Go.Proofs.YtbijncndjlmmdaaGreatDoor
namespace Go.Proofs.YtbijncndjlmmdaaGreatDoor
set_option linter.unusedVariables false
set_option linter.unusedSimpArgs false
open Go.ChangeShapes Go.WideShapes Go.ChangeAt Go.RowKit
theorem gDy:Tryz.prog.globalNamed "reredos/scalar.dyads" =some 0:=by kernel_rfl
theorem tDy:(Tryz.prog.globals[0]?).map (·.type)=some 131:=by kernel_rfl
theorem gMo:Tryz.prog.globalNamed "reredos/scalar.monads" =some 1:=by kernel_rfl
theorem tMo:(Tryz.prog.globals[1]?).map (·.type)=some 137:=by kernel_rfl
section
variable {W:World} {fuel:Nat} {cs:List Value} {p:List MemPlace} {n:Nat}
theorem array_len {t e:TypeId} {ds:List (DataW Unit)} (ht:Tryz.prog.underlying t=some (.array n e)) (h:DataW.trod (fun _=>()) Tryz.prog W 0 (fun _=>true) false fuel t cs=some (.agg ds,p)):cs.length=Tryz.prog.cellsOf t:=by
 cases fuel with
 |zero=>simp[DataW.trod]at h
 |succ fuel=>
  simp only[DataW.trod,ht]at h
  split at h
  · rename_i hl
    exact hl
  · cases h
theorem str_of {s:List UInt8} (h:DataW.trod (fun _=>()) Tryz.prog W 0 (fun _=>true) false fuel 9 cs=some (.lit (.string s),p)):cs=[.string ⟨s.toArray⟩]:=by
 obtain⟨v,rfl,hx,_⟩:=DataW.trod_string Tryz.underlying9 h
 injection hx with hx
 injection hx with hx
 injection hx with hx
 subst hx
 rfl
theorem bool_of {b:Bool} (h:DataW.trod (fun _=>()) Tryz.prog W 0 (fun _=>true) false fuel 4 cs=some (.lit (.bool b),p)):cs=[.bool b]:=by
 obtain⟨v,rfl,hx⟩:=DataW.trod_bool Tryz.underlying4 h
 injection hx with hx
 injection hx with hx
 injection hx with hx
 rw[hx]
theorem cut3 {l:List Value} {x y z:Value} (h0:(l.drop 0).take 1=[x]) (h1:(l.drop 1).take 1=[y]) (h2:(l.drop 2).take 1=[z]) (hl:l.length=3):l=[x,y,z]:=by
 match l,hl with
 |[a,b,c],_=>simp_all
theorem sign_of {a c:List UInt8} {b:Bool} (h:DataW.trod (fun _=>()) Tryz.prog W 0 (fun _=>true) false fuel 130 cs=some (.agg [.lit (.string a),.lit (.bool b),.lit (.string c)],p)):cs=[.string ⟨a.toArray⟩,.bool b,.string ⟨c.toArray⟩]:=by
 have hs:Tryz.prog.cellsOf 9=1:=by kernel_rfl
 have hb:Tryz.prog.cellsOf 4=1:=by kernel_rfl
 have hg:Tryz.prog.cellsOf 130=3:=by kernel_rfl
 obtain⟨xs,m,rfl,hx,hl,hxl,hall⟩:=DataW.trod_struct Tryz.underlying130 h
 rw[hg]at hl
 match xs,hxl with
 |[y0,y1,y2],_=>
  injection hx with hx _
  injection hx with hx
  simp only[List.map_cons,List.map_nil]at hx
  injection hx with e0 hx
  injection hx with e1 hx
  injection hx with e2 _
  have h0:DataW.trod (fun _=>()) Tryz.prog W 0 (fun _=>true) false m 9 ((cs.drop 0).take (Tryz.prog.cellsOf 9))=some y0:=hall 0 _ rfl
  have h1:DataW.trod (fun _=>()) Tryz.prog W 0 (fun _=>true) false m 4 ((cs.drop 1).take (Tryz.prog.cellsOf 4))=some y1:=hall 1 _ rfl
  have h2:DataW.trod (fun _=>()) Tryz.prog W 0 (fun _=>true) false m 9 ((cs.drop 2).take (Tryz.prog.cellsOf 9))=some y2:=hall 2 _ rfl
  rw[hs]at h0 h2
  rw[hb]at h1
  obtain⟨d0,q0⟩:=y0
  obtain⟨d1,q1⟩:=y1
  obtain⟨d2,q2⟩:=y2
  simp only at e0 e1 e2
  subst e0 e1 e2
  exact cut3 (str_of h0) (bool_of h1) (str_of h2) hl
end
theorem list_parts {l r:List Value} {n k:Nat} (hk:0<k) (h1:l.length=n*k) (h2:r.length=n*k) (h:∀i,i<n→(l.drop (i*k)).take k=(r.drop (i*k)).take k):l=r:=by
 apply List.ext_getElem?
 intro j
 by_cases hj:j<n*k
 · have hd:j/k<n:=Nat.div_lt_of_lt_mul (by rw[Nat.mul_comm];exact hj)
   have e:=congrArg (fun x:List Value=>x[j%k]?) (h _ hd)
   have hm:j%k<k:=Nat.mod_lt _ hk
   simp only[List.getElem?_take,List.getElem?_drop,if_pos hm]at e
   have hjj:j/k*k+j%k=j:=by rw[Nat.mul_comm];exact Nat.div_add_mod j k
   rw[hjj]at e
   exact e
 · rw[List.getElem?_eq_none (by omega),List.getElem?_eq_none (by omega)]
theorem var_row {W:World} {n:String} {g:Nat} {cs r:Array Value} (hg:Tryz.prog.globalNamed n=some g) (h:W.var? Tryz.prog n=some cs) (e:cs.toList=r.toList):RowAt W g r:=by
 unfold World.var? at h
 rw[hg]at h
 simp only[Option.bind_some]at h
 split at h
 · rename_i cs' t fr hh
   obtain rfl:=Option.some.inj h
   refine⟨t,fr,hh.trans ?_⟩
   have:cs'=r:=Array.ext' e
   rw[this]
 · cases h
theorem dyads_at {W:World} (h:Lib.VarReads Tryz.prog W "reredos/scalar.dyads" Rows.laid_reredos_scalar_dyads):RowAt W 0 drow:=by
 obtain⟨g,t,cs,fuel,p,hg,ht,hv,hr⟩:=h
 obtain rfl:=Option.some.inj (gDy.symm.trans hg)
 obtain rfl:=Option.some.inj (tDy.symm.trans ht)
 refine var_row gDy hv ?_
 have hc:Tryz.prog.cellsOf 130=3:=by kernel_rfl
 have hn:Tryz.prog.cellsOf 131=33:=by kernel_rfl
 have hl:=array_len Tryz.underlying131 hr
 rw[hn]at hl
 refine list_parts (n:=11) (k:=3) (by decide) hl (by decide) fun i hi=> ?_
 obtain⟨f',d,q,hd,hr'⟩:=Lib.array_elem Tryz.underlying131 hr i hi
 rw[hc]at hr'
 obtain rfl|rfl|rfl|rfl|rfl|rfl|rfl|rfl|rfl|rfl|rfl:i=0∨i=1∨i=2∨i=3∨i=4∨i=5∨i=6∨i=7∨i=8∨i=9∨i=10:=by omega
 all_goals
  obtain rfl:=Option.some.inj hd
  rw[sign_of hr']
  rfl
theorem monads_at {W:World} (h:Lib.VarReads Tryz.prog W "reredos/scalar.monads" Rows.laid_reredos_scalar_monads):RowAt W 1 mrow:=by
 obtain⟨g,t,cs,fuel,p,hg,ht,hv,hr⟩:=h
 obtain rfl:=Option.some.inj (gMo.symm.trans hg)
 obtain rfl:=Option.some.inj (tMo.symm.trans ht)
 refine var_row gMo hv ?_
 have hc:Tryz.prog.cellsOf 9=1:=by kernel_rfl
 have hn:Tryz.prog.cellsOf 137=3:=by kernel_rfl
 have hl:=array_len Tryz.underlying137 hr
 rw[hn]at hl
 refine list_parts (n:=3) (k:=1) (by decide) hl (by decide) fun i hi=> ?_
 obtain⟨f',d,q,hd,hr'⟩:=Lib.array_elem Tryz.underlying137 hr i hi
 rw[hc]at hr'
 obtain rfl|rfl|rfl:i=0∨i=1∨i=2:=by omega
 all_goals
  obtain rfl:=Option.some.inj hd
  rw[str_of hr']
  rfl
end Go.Proofs.YtbijncndjlmmdaaGreatDoor
namespace Go.Proofs.YtbijncndjlmmdaaGreatDoor
set_option linter.unusedVariables false
set_option linter.unusedSimpArgs false
open Go.ChangeShapes Go.WideShapes Go.ChangeAt Go.RowKit
def laid7p:List (String×DataW Unit):=[("math/bits.deBruijn32tab",Rows.laid_math_bits_deBruijn32tab),("math/bits.deBruijn64tab",Rows.laid_math_bits_deBruijn64tab),("internal/strconv.uint64pow10",Rows.laid_internal_strconv_uint64pow10),("strconv.ErrRange",Rows.laid_strconv_ErrRange),("strconv.ErrSyntax",Rows.laid_strconv_ErrSyntax),("reredos/scalar.dyads",Rows.laid_reredos_scalar_dyads),("reredos/scalar.monads",Rows.laid_reredos_scalar_monads)]
theorem wtp_of_laid {W:World} (h:laidMetH Tryz.prog laid7p W):WT W:=by
 rw[MakeChecks.laidMetH_plain _ _ _ (by kernel_rfl)]at h
 have h2:=laidMet.tail (laidMet.tail h)
 have h3:=laidMet.tail h2
 rw[powData]at h2
 refine⟨Lib.tabBelow_of_tabIs (Lib.tabIs_of_head gPow tPow Tryz.underlying205 Tryz.underlying172 (by kernel_rfl) (by kernel_rfl) h2),?_⟩
 obtain⟨a,s,hv,_,_,_⟩:=laid_sentinel h3 gErr tErr Tryz.underlying213 rowErr Tryz.underlying270 Tryz.underlying272 rfl rfl Tryz.underlying9 (by kernel_rfl) (by kernel_rfl)
 exact⟨_,World.var?_cell gErr hv 0,.inr ⟨_,_,rfl⟩⟩
theorem smp_of_laid {W:World} (h:laidMetH Tryz.prog laid7p W):SM W:=by
 rw[MakeChecks.laidMetH_plain _ _ _ (by kernel_rfl)]at h
 have h2:=laidMet.tail (laidMet.tail h)
 have h3:=dyads_at (Lib.laidMet.reads h (by simp[laid7p]))
 have h4:=monads_at (Lib.laidMet.reads h (by simp[laid7p]))
 rw[powData]at h2
 exact⟨⟨Lib.tabBelow_of_tabIs (Lib.tabIs_of_head gPow tPow Tryz.underlying205 Tryz.underlying172 (by kernel_rfl) (by kernel_rfl) h2),h3⟩,h4⟩
theorem door_met7p (os:Os) (args:Array Value):laidMetH Tryz.prog laid7p ((World.doorLaid Tryz.prog 400 os).forCall (fun _ _=>0) ⟨#[],args,[]⟩).memory:=
 laidMetH_of_parts3 (fuel:=8) (laidMet_of_run' 8 (by kernel_rfl) (by kernel_rfl)) (by kernel_rfl) (by kernel_rfl)
end Go.Proofs.YtbijncndjlmmdaaGreatDoor

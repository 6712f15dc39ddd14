import Derived.Test.YtcfbjdplhgdpfaaGreatDoorMbt
set_option maxHeartbeats 6400000
set_option maxRecDepth 100000
namespace Go.Proofs.YtcfbjdplhgdpfaaGreatDoor
set_option linter.unusedVariables false
set_option linter.unusedSimpArgs false
open Go.RowKit
theorem lw_U {P:World→Prop} {w:World} {f:FuncId} {args:Array Value} {o:Option Ar} (h:Lv P w) (hc:Calls Tryz.prog f args w (UEnd o w))
 (hs:Stb P:=by repeat' (first|exact Stb.bel _|exact Stb.bx|exact Av.stb2|refine Stb.and ?_ ?_|exact Stb.triv)):
 Calls Tryz.prog f args w fun e w'=>∃a n c b m d,e=.returned (.tuple #[.agg #[.slice a n c,.slice b m d],.bool o.isSome])∧Lv (fun w''=>Bx w'' w'.heap.size a n c b m d∧Av w'' a n c b m d (TS o).1 (TS o).2 o∧P w'') (w'.alloc (.cells #[.slice a n c,.slice b m d] 25)):=
 hc.mono fun _ _ ⟨a,n,c,b,m,d,h1,h2,h3⟩=>⟨a,n,c,b,m,d,h1,lw_box ⟨hs _ _ h.out h3⟩ h2 hs⟩
theorem two_tl {s:ByteArray} {x:UInt8} (h:s.data.toList≠[x]):(s.toList==[x])=false∧¬s.toList=[x]:=by
 have e:s.toList=s.data.toList:=str_tl s
 rw[e]
 exact⟨beq_false_of_ne h,h⟩
theorem pmay_few1 {s:ByteArray} {a1 b1 a2 b2:Option Addr} {n1 c1 m1 d1 n2 c2 m2 d2:Nat} {l m:List Int} {es fs:List ByteArray} {o p:Option Ar} (W:World) (hW:PW W) (h1:Av W a1 n1 c1 b1 m1 d1 l es o) (h2:Av W a2 n2 c2 b2 m2 d2 m fs p) (hf1:fewB l es=false):
 Calls Tryz.prog 4 #[.string s,.agg #[.slice a1 n1 c1,.slice b1 m1 d1],.agg #[.slice a2 n2 c2,.slice b2 m2 d2]] W (TrueEnd W):=by
 have KS:=Lib.hid (fun w (hb:Below W.heap.size W w)=>pshown_is w (hW.below hb))
 have KF1:=fun w (hb:Below W.heap.size W w)=>Few_is (c:=c1) (d:=d1) w (h1.v.below hb) h1.z
 rw[hf1]at KF1
 replace KF1:=Lib.hid KF1
 have h:=lw_two W h1 h2
 clear hW h1 h2 hf1
 go_enter Tryz.func4,Tryz.ntmps4
 go_wp2_with fail
 with_reducible refine(lw h (KS.out _ h.out.2.2.2.2)).mono ?_
 clear h
 rintro e w ⟨rfl,h⟩
 have xv:=h.out.2.2.1.c0
 have yv:=h.out.2.2.1.c1
 go_wp2_with fail
 with_reducible refine(lw h (KF1.out _ h.out.2.2.2.2)).mono ?_
 clear h xv yv
 rintro e w ⟨rfl,h⟩
 go_wp2_with fail
 go_ret
 exact⟨rfl,h.out.2.2.2.2⟩
theorem pmay_few2 {s:ByteArray} {a1 b1 a2 b2:Option Addr} {n1 c1 m1 d1 n2 c2 m2 d2:Nat} {l m:List Int} {es fs:List ByteArray} {o p:Option Ar} (W:World) (hW:PW W) (h1:Av W a1 n1 c1 b1 m1 d1 l es o) (h2:Av W a2 n2 c2 b2 m2 d2 m fs p) (hf1:fewB l es=true) (hf2:fewB m fs=false):
 Calls Tryz.prog 4 #[.string s,.agg #[.slice a1 n1 c1,.slice b1 m1 d1],.agg #[.slice a2 n2 c2,.slice b2 m2 d2]] W (TrueEnd W):=by
 have KS:=Lib.hid (fun w (hb:Below W.heap.size W w)=>pshown_is w (hW.below hb))
 have KF1:=fun w (hb:Below W.heap.size W w)=>Few_is (c:=c1) (d:=d1) w (h1.v.below hb) h1.z
 rw[hf1]at KF1
 replace KF1:=Lib.hid KF1
 have KF2:=fun w (hb:Below W.heap.size W w)=>Few_is (c:=c2) (d:=d2) w (h2.v.below hb) h2.z
 rw[hf2]at KF2
 replace KF2:=Lib.hid KF2
 have h:=lw_two W h1 h2
 clear hW h1 h2 hf1 hf2
 go_enter Tryz.func4,Tryz.ntmps4
 go_wp2_with fail
 with_reducible refine(lw h (KS.out _ h.out.2.2.2.2)).mono ?_
 clear h
 rintro e w ⟨rfl,h⟩
 have xv:=h.out.2.2.1.c0
 have yv:=h.out.2.2.1.c1
 go_wp2_with fail
 with_reducible refine(lw h (KF1.out _ h.out.2.2.2.2)).mono ?_
 clear h xv yv
 rintro e w ⟨rfl,h⟩
 have xw:=h.out.1.c0
 have yw:=h.out.1.c1
 go_wp2_with fail
 with_reducible refine(lw h (KF2.out _ h.out.2.2.2.2)).mono ?_
 clear h xw yw
 rintro e w ⟨rfl,h⟩
 go_wp2_with fail
 go_ret
 exact⟨rfl,h.out.2.2.2.2⟩
theorem pmay_n {s:ByteArray} {a1 b1 a2 b2:Option Addr} {n1 c1 m1 d1 n2 c2 m2 d2:Nat} {l m:List Int} {es fs:List ByteArray} {o p:Option Ar} (W:World) (hW:PW W) (h1:Av W a1 n1 c1 b1 m1 d1 l es o) (h2:Av W a2 n2 c2 b2 m2 d2 m fs p) (hf1:fewB l es=true) (hf2:fewB m fs=true) (ho:o=none) (hz:s.size≤maxLen):
 Calls Tryz.prog 4 #[.string s,.agg #[.slice a1 n1 c1,.slice b1 m1 d1],.agg #[.slice a2 n2 c2,.slice b2 m2 d2]] W (TrueEnd W):=by
 have KS:=Lib.hid (fun w (hb:Below W.heap.size W w)=>pshown_is w (hW.below hb))
 have KF1:=fun w (hb:Below W.heap.size W w)=>Few_is (c:=c1) (d:=d1) w (h1.v.below hb) h1.z
 rw[hf1]at KF1
 replace KF1:=Lib.hid KF1
 have KF2:=fun w (hb:Below W.heap.size W w)=>Few_is (c:=c2) (d:=d2) w (h2.v.below hb) h2.z
 rw[hf2]at KF2
 replace KF2:=Lib.hid KF2
 subst ho
 have K1:=fun w (hb:Below W.heap.size W w)=>POne_is (h1.below hb) (hW.below hb) hz
 rw[oneP_none]at K1
 replace K1:=Lib.hid K1
 have K2:=fun w (hb:Below W.heap.size W w)=>PTwo_is (h1.below hb) (h2.below hb) (hW.below hb) hz
 rw[twoP_none _ (o:=none) (p:=p) rfl]at K2
 replace K2:=Lib.hid K2
 have h:=lw_two W h1 h2
 clear hW h1 h2 hf1 hf2 hz
 go_enter Tryz.func4,Tryz.ntmps4
 go_wp2_with fail
 with_reducible refine(lw h (KS.out _ h.out.2.2.2.2)).mono ?_
 clear h
 rintro e w ⟨rfl,h⟩
 have xv:=h.out.2.2.1.c0
 have yv:=h.out.2.2.1.c1
 go_wp2_with fail
 with_reducible refine(lw h (KF1.out _ h.out.2.2.2.2)).mono ?_
 clear h xv yv
 rintro e w ⟨rfl,h⟩
 have xw:=h.out.1.c0
 have yw:=h.out.1.c1
 go_wp2_with fail
 with_reducible refine(lw h (KF2.out _ h.out.2.2.2.2)).mono ?_
 clear h xw yw
 rintro e w ⟨rfl,h⟩
 have xv:=h.out.2.2.1.c0
 have yv:=h.out.2.2.1.c1
 go_wp2_with fail
 with_reducible refine(lw_M h (K1.out _ h.out.2.2.2.2)).mono ?_
 clear h xv yv
 rintro e w ⟨ae,ne,ce,be,me,de,rfl,h⟩
 have xv:=h.out.2.2.2.2.1.c0
 have yv:=h.out.2.2.2.2.1.c1
 have xw:=h.out.2.2.1.c0
 have yw:=h.out.2.2.1.c1
 go_wp2_with fail
 with_reducible refine(lw_M h (K2.out _ h.out.2.2.2.2.2.2)).mono ?_
 clear h xv yv xw yw
 rintro e w ⟨af,nf,cf,bf,mf,df,rfl,h⟩
 have xv:=h.out.2.2.2.2.2.2.1.c0
 have yv:=h.out.2.2.2.2.2.2.1.c1
 go_wp2_with fail
 with_reducible refine(lw h (VMay_av h.out.2.2.2.2.2.2.2.1)).mono ?_
 clear h xv yv
 rintro e w ⟨rfl,h⟩
 have xe:=h.out.2.2.1.c0
 have ye:=h.out.2.2.1.c1
 go_wp2_with fail
 with_reducible refine(lw h (VSame_av h.out.2.2.2.1.v (Vl.none_ _) h.out.2.2.2.1.ntt (by omega) rfl rfl)).mono ?_
 clear h xe ye
 rintro e w ⟨rfl,h⟩
 have xf:=h.out.1.c0
 have yf:=h.out.1.c1
 go_wp2_with fail
 with_reducible refine(lw h (VSame_av h.out.2.1.v (Vl.none_ _) h.out.2.1.ntt (by omega) rfl rfl)).mono ?_
 clear h xf yf
 rintro e w ⟨rfl,h⟩
 have xv:=h.out.2.2.2.2.2.2.1.c0
 have yv:=h.out.2.2.2.2.2.2.1.c1
 go_wp2_with fail
 with_reducible refine(lw h (VMay_av h.out.2.2.2.2.2.2.2.1)).mono ?_
 clear h xv yv
 rintro e w ⟨rfl,h⟩
 go_wp2_with fail
 go_ret
 exact⟨rfl,h.out.2.2.2.2.2.2.2.2⟩
theorem pmay_sn1 {s:ByteArray} {a1 b1 a2 b2:Option Addr} {n1 c1 m1 d1 n2 c2 m2 d2:Nat} {l m:List Int} {es fs:List ByteArray} {o p:Option Ar} (W:World) (hW:PW W) (h1:Av W a1 n1 c1 b1 m1 d1 l es o) (h2:Av W a2 n2 c2 b2 m2 d2 m fs p) (hf1:fewB l es=true) (hf2:fewB m fs=true) {q:Ar} (ho:o=some q) (hp:p=none) (hz:s.size≤maxLen) {x1:Ar} (eoneP:oneP s.data.toList (some q)=(some x1,0)):
 Calls Tryz.prog 4 #[.string s,.agg #[.slice a1 n1 c1,.slice b1 m1 d1],.agg #[.slice a2 n2 c2,.slice b2 m2 d2]] W (TrueEnd W):=by
 have KS:=Lib.hid (fun w (hb:Below W.heap.size W w)=>pshown_is w (hW.below hb))
 have KF1:=fun w (hb:Below W.heap.size W w)=>Few_is (c:=c1) (d:=d1) w (h1.v.below hb) h1.z
 rw[hf1]at KF1
 replace KF1:=Lib.hid KF1
 have KF2:=fun w (hb:Below W.heap.size W w)=>Few_is (c:=c2) (d:=d2) w (h2.v.below hb) h2.z
 rw[hf2]at KF2
 replace KF2:=Lib.hid KF2
 subst ho
 subst hp
 have K1:=fun w (hb:Below W.heap.size W w)=>POne_is (h1.below hb) (hW.below hb) hz
 rw[eoneP]at K1
 replace K1:=Lib.hid K1
 have K2:=fun w (hb:Below W.heap.size W w)=>PTwo_is (h1.below hb) (h2.below hb) (hW.below hb) hz
 rw[twoP_none _ (o:=some q) (p:=none) rfl]at K2
 replace K2:=Lib.hid K2
 have h:=lw_two W h1 h2
 clear hW h1 h2 hf1 hf2 hz eoneP
 go_enter Tryz.func4,Tryz.ntmps4
 go_wp2_with fail
 with_reducible refine(lw h (KS.out _ h.out.2.2.2.2)).mono ?_
 clear h
 rintro e w ⟨rfl,h⟩
 have xv:=h.out.2.2.1.c0
 have yv:=h.out.2.2.1.c1
 go_wp2_with fail
 with_reducible refine(lw h (KF1.out _ h.out.2.2.2.2)).mono ?_
 clear h xv yv
 rintro e w ⟨rfl,h⟩
 have xw:=h.out.1.c0
 have yw:=h.out.1.c1
 go_wp2_with fail
 with_reducible refine(lw h (KF2.out _ h.out.2.2.2.2)).mono ?_
 clear h xw yw
 rintro e w ⟨rfl,h⟩
 have xv:=h.out.2.2.1.c0
 have yv:=h.out.2.2.1.c1
 go_wp2_with fail
 with_reducible refine(lw_M h (K1.out _ h.out.2.2.2.2)).mono ?_
 clear h xv yv
 rintro e w ⟨ae,ne,ce,be,me,de,rfl,h⟩
 have xv:=h.out.2.2.2.2.1.c0
 have yv:=h.out.2.2.2.2.1.c1
 have xw:=h.out.2.2.1.c0
 have yw:=h.out.2.2.1.c1
 go_wp2_with fail
 with_reducible refine(lw_M h (K2.out _ h.out.2.2.2.2.2.2)).mono ?_
 clear h xv yv xw yw
 rintro e w ⟨af,nf,cf,bf,mf,df,rfl,h⟩
 have xv:=h.out.2.2.2.2.2.2.1.c0
 have yv:=h.out.2.2.2.2.2.2.1.c1
 go_wp2_with fail
 with_reducible refine(lw h (VMay_av h.out.2.2.2.2.2.2.2.1)).mono ?_
 clear h xv yv
 rintro e w ⟨rfl,h⟩
 have xw:=h.out.2.2.2.2.1.c0
 have yw:=h.out.2.2.2.2.1.c1
 go_wp2_with fail
 with_reducible refine(lw h (VMay_av h.out.2.2.2.2.2.1)).mono ?_
 clear h xw yw
 rintro e w ⟨rfl,h⟩
 have xe:=h.out.2.2.1.c0
 have ye:=h.out.2.2.1.c1
 go_wp2_with fail
 with_reducible refine(lw h (VMay_av h.out.2.2.2.1)).mono ?_
 clear h xe ye
 rintro e w ⟨rfl,h⟩
 have xf:=h.out.1.c0
 have yf:=h.out.1.c1
 go_wp2_with fail
 with_reducible refine(lw h (VSame_av h.out.2.1.v (Vl.none_ _) h.out.2.1.ntt (by omega) rfl rfl)).mono ?_
 clear h xf yf
 rintro e w ⟨rfl,h⟩
 have xv:=h.out.2.2.2.2.2.2.1.c0
 have yv:=h.out.2.2.2.2.2.2.1.c1
 go_wp2_with fail
 with_reducible refine(lw h (VMay_av h.out.2.2.2.2.2.2.2.1)).mono ?_
 clear h xv yv
 rintro e w ⟨rfl,h⟩
 go_wp2_with fail
 go_ret
 exact⟨rfl,h.out.2.2.2.2.2.2.2.2⟩
theorem pmay_ss11 {s:ByteArray} {a1 b1 a2 b2:Option Addr} {n1 c1 m1 d1 n2 c2 m2 d2:Nat} {l m:List Int} {es fs:List ByteArray} {o p:Option Ar} (W:World) (hW:PW W) (h1:Av W a1 n1 c1 b1 m1 d1 l es o) (h2:Av W a2 n2 c2 b2 m2 d2 m fs p) (hf1:fewB l es=true) (hf2:fewB m fs=true) {q:Ar} (ho:o=some q) {t:Ar} (hp:p=some t) (hz:s.size≤maxLen) {x1:Ar} (eoneP:oneP s.data.toList (some q)=(some x1,0)) {x2:Ar} (etwoP:twoP s.data.toList (some q) (some t)=(some x2,0)):
 Calls Tryz.prog 4 #[.string s,.agg #[.slice a1 n1 c1,.slice b1 m1 d1],.agg #[.slice a2 n2 c2,.slice b2 m2 d2]] W (TrueEnd W):=by
 have KS:=Lib.hid (fun w (hb:Below W.heap.size W w)=>pshown_is w (hW.below hb))
 have KF1:=fun w (hb:Below W.heap.size W w)=>Few_is (c:=c1) (d:=d1) w (h1.v.below hb) h1.z
 rw[hf1]at KF1
 replace KF1:=Lib.hid KF1
 have KF2:=fun w (hb:Below W.heap.size W w)=>Few_is (c:=c2) (d:=d2) w (h2.v.below hb) h2.z
 rw[hf2]at KF2
 replace KF2:=Lib.hid KF2
 subst ho
 subst hp
 have K1:=fun w (hb:Below W.heap.size W w)=>POne_is (h1.below hb) (hW.below hb) hz
 rw[eoneP]at K1
 replace K1:=Lib.hid K1
 have K2:=fun w (hb:Below W.heap.size W w)=>PTwo_is (h1.below hb) (h2.below hb) (hW.below hb) hz
 rw[etwoP]at K2
 replace K2:=Lib.hid K2
 have h:=lw_two W h1 h2
 clear hW h1 h2 hf1 hf2 hz eoneP etwoP
 go_enter Tryz.func4,Tryz.ntmps4
 go_wp2_with fail
 with_reducible refine(lw h (KS.out _ h.out.2.2.2.2)).mono ?_
 clear h
 rintro e w ⟨rfl,h⟩
 have xv:=h.out.2.2.1.c0
 have yv:=h.out.2.2.1.c1
 go_wp2_with fail
 with_reducible refine(lw h (KF1.out _ h.out.2.2.2.2)).mono ?_
 clear h xv yv
 rintro e w ⟨rfl,h⟩
 have xw:=h.out.1.c0
 have yw:=h.out.1.c1
 go_wp2_with fail
 with_reducible refine(lw h (KF2.out _ h.out.2.2.2.2)).mono ?_
 clear h xw yw
 rintro e w ⟨rfl,h⟩
 have xv:=h.out.2.2.1.c0
 have yv:=h.out.2.2.1.c1
 go_wp2_with fail
 with_reducible refine(lw_M h (K1.out _ h.out.2.2.2.2)).mono ?_
 clear h xv yv
 rintro e w ⟨ae,ne,ce,be,me,de,rfl,h⟩
 have xv:=h.out.2.2.2.2.1.c0
 have yv:=h.out.2.2.2.2.1.c1
 have xw:=h.out.2.2.1.c0
 have yw:=h.out.2.2.1.c1
 go_wp2_with fail
 with_reducible refine(lw_M h (K2.out _ h.out.2.2.2.2.2.2)).mono ?_
 clear h xv yv xw yw
 rintro e w ⟨af,nf,cf,bf,mf,df,rfl,h⟩
 have xv:=h.out.2.2.2.2.2.2.1.c0
 have yv:=h.out.2.2.2.2.2.2.1.c1
 go_wp2_with fail
 with_reducible refine(lw h (VMay_av h.out.2.2.2.2.2.2.2.1)).mono ?_
 clear h xv yv
 rintro e w ⟨rfl,h⟩
 have xw:=h.out.2.2.2.2.1.c0
 have yw:=h.out.2.2.2.2.1.c1
 go_wp2_with fail
 with_reducible refine(lw h (VMay_av h.out.2.2.2.2.2.1)).mono ?_
 clear h xw yw
 rintro e w ⟨rfl,h⟩
 have xe:=h.out.2.2.1.c0
 have ye:=h.out.2.2.1.c1
 go_wp2_with fail
 with_reducible refine(lw h (VMay_av h.out.2.2.2.1)).mono ?_
 clear h xe ye
 rintro e w ⟨rfl,h⟩
 have xf:=h.out.1.c0
 have yf:=h.out.1.c1
 go_wp2_with fail
 with_reducible refine(lw h (VMay_av h.out.2.1)).mono ?_
 clear h xf yf
 rintro e w ⟨rfl,h⟩
 have xv:=h.out.2.2.2.2.2.2.1.c0
 have yv:=h.out.2.2.2.2.2.2.1.c1
 go_wp2_with fail
 with_reducible refine(lw h (VMay_av h.out.2.2.2.2.2.2.2.1)).mono ?_
 clear h xv yv
 rintro e w ⟨rfl,h⟩
 go_wp2_with fail
 go_ret
 exact⟨rfl,h.out.2.2.2.2.2.2.2.2⟩
theorem pmay_ss10 {s:ByteArray} {a1 b1 a2 b2:Option Addr} {n1 c1 m1 d1 n2 c2 m2 d2:Nat} {l m:List Int} {es fs:List ByteArray} {o p:Option Ar} (W:World) (hW:PW W) (h1:Av W a1 n1 c1 b1 m1 d1 l es o) (h2:Av W a2 n2 c2 b2 m2 d2 m fs p) (hf1:fewB l es=true) (hf2:fewB m fs=true) {q:Ar} (ho:o=some q) {t:Ar} (hp:p=some t) (hz:s.size≤maxLen) {x1:Ar} (eoneP:oneP s.data.toList (some q)=(some x1,0)) {k2:Int} (etwoP:twoP s.data.toList (some q) (some t)=(none,k2)) (hk2:¬k2=0):
 Calls Tryz.prog 4 #[.string s,.agg #[.slice a1 n1 c1,.slice b1 m1 d1],.agg #[.slice a2 n2 c2,.slice b2 m2 d2]] W (TrueEnd W):=by
 have KS:=Lib.hid (fun w (hb:Below W.heap.size W w)=>pshown_is w (hW.below hb))
 have KF1:=fun w (hb:Below W.heap.size W w)=>Few_is (c:=c1) (d:=d1) w (h1.v.below hb) h1.z
 rw[hf1]at KF1
 replace KF1:=Lib.hid KF1
 have KF2:=fun w (hb:Below W.heap.size W w)=>Few_is (c:=c2) (d:=d2) w (h2.v.below hb) h2.z
 rw[hf2]at KF2
 replace KF2:=Lib.hid KF2
 subst ho
 subst hp
 have q2:(k2 != 0)=true:=bne_iff_ne.2 hk2
 have K1:=fun w (hb:Below W.heap.size W w)=>POne_is (h1.below hb) (hW.below hb) hz
 rw[eoneP]at K1
 replace K1:=Lib.hid K1
 have K2:=fun w (hb:Below W.heap.size W w)=>PTwo_is (h1.below hb) (h2.below hb) (hW.below hb) hz
 rw[etwoP]at K2
 replace K2:=Lib.hid K2
 have h:=lw_two W h1 h2
 clear hW h1 h2 hf1 hf2 hz eoneP etwoP
 go_enter Tryz.func4,Tryz.ntmps4
 go_wp2_with fail
 with_reducible refine(lw h (KS.out _ h.out.2.2.2.2)).mono ?_
 clear h
 rintro e w ⟨rfl,h⟩
 have xv:=h.out.2.2.1.c0
 have yv:=h.out.2.2.1.c1
 go_wp2_with fail
 with_reducible refine(lw h (KF1.out _ h.out.2.2.2.2)).mono ?_
 clear h xv yv
 rintro e w ⟨rfl,h⟩
 have xw:=h.out.1.c0
 have yw:=h.out.1.c1
 go_wp2_with fail
 with_reducible refine(lw h (KF2.out _ h.out.2.2.2.2)).mono ?_
 clear h xw yw
 rintro e w ⟨rfl,h⟩
 have xv:=h.out.2.2.1.c0
 have yv:=h.out.2.2.1.c1
 go_wp2_with fail
 with_reducible refine(lw_M h (K1.out _ h.out.2.2.2.2)).mono ?_
 clear h xv yv
 rintro e w ⟨ae,ne,ce,be,me,de,rfl,h⟩
 have xv:=h.out.2.2.2.2.1.c0
 have yv:=h.out.2.2.2.2.1.c1
 have xw:=h.out.2.2.1.c0
 have yw:=h.out.2.2.1.c1
 go_wp2_with fail
 with_reducible refine(lw_M h (K2.out _ h.out.2.2.2.2.2.2)).mono ?_
 clear h xv yv xw yw
 rintro e w ⟨af,nf,cf,bf,mf,df,rfl,h⟩
 have xv:=h.out.2.2.2.2.2.2.1.c0
 have yv:=h.out.2.2.2.2.2.2.1.c1
 go_wp2_with fail
 with_reducible refine(lw h (VMay_av h.out.2.2.2.2.2.2.2.1)).mono ?_
 clear h xv yv
 rintro e w ⟨rfl,h⟩
 have xw:=h.out.2.2.2.2.1.c0
 have yw:=h.out.2.2.2.2.1.c1
 go_wp2_with fail
 with_reducible refine(lw h (VMay_av h.out.2.2.2.2.2.1)).mono ?_
 clear h xw yw
 rintro e w ⟨rfl,h⟩
 have xe:=h.out.2.2.1.c0
 have ye:=h.out.2.2.1.c1
 go_wp2_with fail
 with_reducible refine(lw h (VMay_av h.out.2.2.2.1)).mono ?_
 clear h xe ye
 rintro e w ⟨rfl,h⟩
 have xf:=h.out.1.c0
 have yf:=h.out.1.c1
 go_wp2_with fail
 with_reducible refine(lw h (VSame_av h.out.2.1.v (Vl.none_ _) h.out.2.1.ntt (by omega) rfl rfl)).mono ?_
 clear h xf yf
 rintro e w ⟨rfl,h⟩
 have xv:=h.out.2.2.2.2.2.2.1.c0
 have yv:=h.out.2.2.2.2.2.2.1.c1
 go_wp2_with fail
 with_reducible refine(lw h (VMay_av h.out.2.2.2.2.2.2.2.1)).mono ?_
 clear h xv yv
 rintro e w ⟨rfl,h⟩
 go_wp2_with fail
 go_ret
 exact⟨rfl,h.out.2.2.2.2.2.2.2.2⟩
theorem pmay_sn0 {s:ByteArray} {a1 b1 a2 b2:Option Addr} {n1 c1 m1 d1 n2 c2 m2 d2:Nat} {l m:List Int} {es fs:List ByteArray} {o p:Option Ar} (W:World) (hW:PW W) (h1:Av W a1 n1 c1 b1 m1 d1 l es o) (h2:Av W a2 n2 c2 b2 m2 d2 m fs p) (hf1:fewB l es=true) (hf2:fewB m fs=true) {q:Ar} (ho:o=some q) (hp:p=none) (hz:s.size≤maxLen) {k1:Int} (eoneP:oneP s.data.toList (some q)=(none,k1)) (hk1:¬k1=0):
 Calls Tryz.prog 4 #[.string s,.agg #[.slice a1 n1 c1,.slice b1 m1 d1],.agg #[.slice a2 n2 c2,.slice b2 m2 d2]] W (TrueEnd W):=by
 have KS:=Lib.hid (fun w (hb:Below W.heap.size W w)=>pshown_is w (hW.below hb))
 have KF1:=fun w (hb:Below W.heap.size W w)=>Few_is (c:=c1) (d:=d1) w (h1.v.below hb) h1.z
 rw[hf1]at KF1
 replace KF1:=Lib.hid KF1
 have KF2:=fun w (hb:Below W.heap.size W w)=>Few_is (c:=c2) (d:=d2) w (h2.v.below hb) h2.z
 rw[hf2]at KF2
 replace KF2:=Lib.hid KF2
 subst ho
 subst hp
 have q1:(k1 != 0)=true:=bne_iff_ne.2 hk1
 have K1:=fun w (hb:Below W.heap.size W w)=>POne_is (h1.below hb) (hW.below hb) hz
 rw[eoneP]at K1
 replace K1:=Lib.hid K1
 have K2:=fun w (hb:Below W.heap.size W w)=>PTwo_is (h1.below hb) (h2.below hb) (hW.below hb) hz
 rw[twoP_none _ (o:=some q) (p:=none) rfl]at K2
 replace K2:=Lib.hid K2
 have h:=lw_two W h1 h2
 clear hW h1 h2 hf1 hf2 hz eoneP
 go_enter Tryz.func4,Tryz.ntmps4
 go_wp2_with fail
 with_reducible refine(lw h (KS.out _ h.out.2.2.2.2)).mono ?_
 clear h
 rintro e w ⟨rfl,h⟩
 have xv:=h.out.2.2.1.c0
 have yv:=h.out.2.2.1.c1
 go_wp2_with fail
 with_reducible refine(lw h (KF1.out _ h.out.2.2.2.2)).mono ?_
 clear h xv yv
 rintro e w ⟨rfl,h⟩
 have xw:=h.out.1.c0
 have yw:=h.out.1.c1
 go_wp2_with fail
 with_reducible refine(lw h (KF2.out _ h.out.2.2.2.2)).mono ?_
 clear h xw yw
 rintro e w ⟨rfl,h⟩
 have xv:=h.out.2.2.1.c0
 have yv:=h.out.2.2.1.c1
 go_wp2_with fail
 with_reducible refine(lw_M h (K1.out _ h.out.2.2.2.2)).mono ?_
 clear h xv yv
 rintro e w ⟨ae,ne,ce,be,me,de,rfl,h⟩
 have xv:=h.out.2.2.2.2.1.c0
 have yv:=h.out.2.2.2.2.1.c1
 have xw:=h.out.2.2.1.c0
 have yw:=h.out.2.2.1.c1
 go_wp2_with fail
 with_reducible refine(lw_M h (K2.out _ h.out.2.2.2.2.2.2)).mono ?_
 clear h xv yv xw yw
 rintro e w ⟨af,nf,cf,bf,mf,df,rfl,h⟩
 have xv:=h.out.2.2.2.2.2.2.1.c0
 have yv:=h.out.2.2.2.2.2.2.1.c1
 go_wp2_with fail
 with_reducible refine(lw h (VMay_av h.out.2.2.2.2.2.2.2.1)).mono ?_
 clear h xv yv
 rintro e w ⟨rfl,h⟩
 have xw:=h.out.2.2.2.2.1.c0
 have yw:=h.out.2.2.2.2.1.c1
 go_wp2_with fail
 with_reducible refine(lw h (VMay_av h.out.2.2.2.2.2.1)).mono ?_
 clear h xw yw
 rintro e w ⟨rfl,h⟩
 have xe:=h.out.2.2.1.c0
 have ye:=h.out.2.2.1.c1
 go_wp2_with fail
 with_reducible refine(lw h (VSame_av h.out.2.2.2.1.v (Vl.none_ _) h.out.2.2.2.1.ntt (by omega) rfl rfl)).mono ?_
 clear h xe ye
 rintro e w ⟨rfl,h⟩
 have xf:=h.out.1.c0
 have yf:=h.out.1.c1
 go_wp2_with fail
 with_reducible refine(lw h (VSame_av h.out.2.1.v (Vl.none_ _) h.out.2.1.ntt (by omega) rfl rfl)).mono ?_
 clear h xf yf
 rintro e w ⟨rfl,h⟩
 have xv:=h.out.2.2.2.2.2.2.1.c0
 have yv:=h.out.2.2.2.2.2.2.1.c1
 go_wp2_with fail
 with_reducible refine(lw h (VMay_av h.out.2.2.2.2.2.2.2.1)).mono ?_
 clear h xv yv
 rintro e w ⟨rfl,h⟩
 go_wp2_with fail
 go_ret
 exact⟨rfl,h.out.2.2.2.2.2.2.2.2⟩
theorem pmay_ss01 {s:ByteArray} {a1 b1 a2 b2:Option Addr} {n1 c1 m1 d1 n2 c2 m2 d2:Nat} {l m:List Int} {es fs:List ByteArray} {o p:Option Ar} (W:World) (hW:PW W) (h1:Av W a1 n1 c1 b1 m1 d1 l es o) (h2:Av W a2 n2 c2 b2 m2 d2 m fs p) (hf1:fewB l es=true) (hf2:fewB m fs=true) {q:Ar} (ho:o=some q) {t:Ar} (hp:p=some t) (hz:s.size≤maxLen) {k1:Int} (eoneP:oneP s.data.toList (some q)=(none,k1)) (hk1:¬k1=0) {x2:Ar} (etwoP:twoP s.data.toList (some q) (some t)=(some x2,0)):
 Calls Tryz.prog 4 #[.string s,.agg #[.slice a1 n1 c1,.slice b1 m1 d1],.agg #[.slice a2 n2 c2,.slice b2 m2 d2]] W (TrueEnd W):=by
 have KS:=Lib.hid (fun w (hb:Below W.heap.size W w)=>pshown_is w (hW.below hb))
 have KF1:=fun w (hb:Below W.heap.size W w)=>Few_is (c:=c1) (d:=d1) w (h1.v.below hb) h1.z
 rw[hf1]at KF1
 replace KF1:=Lib.hid KF1
 have KF2:=fun w (hb:Below W.heap.size W w)=>Few_is (c:=c2) (d:=d2) w (h2.v.below hb) h2.z
 rw[hf2]at KF2
 replace KF2:=Lib.hid KF2
 subst ho
 subst hp
 have q1:(k1 != 0)=true:=bne_iff_ne.2 hk1
 have K1:=fun w (hb:Below W.heap.size W w)=>POne_is (h1.below hb) (hW.below hb) hz
 rw[eoneP]at K1
 replace K1:=Lib.hid K1
 have K2:=fun w (hb:Below W.heap.size W w)=>PTwo_is (h1.below hb) (h2.below hb) (hW.below hb) hz
 rw[etwoP]at K2
 replace K2:=Lib.hid K2
 have h:=lw_two W h1 h2
 clear hW h1 h2 hf1 hf2 hz eoneP etwoP
 go_enter Tryz.func4,Tryz.ntmps4
 go_wp2_with fail
 with_reducible refine(lw h (KS.out _ h.out.2.2.2.2)).mono ?_
 clear h
 rintro e w ⟨rfl,h⟩
 have xv:=h.out.2.2.1.c0
 have yv:=h.out.2.2.1.c1
 go_wp2_with fail
 with_reducible refine(lw h (KF1.out _ h.out.2.2.2.2)).mono ?_
 clear h xv yv
 rintro e w ⟨rfl,h⟩
 have xw:=h.out.1.c0
 have yw:=h.out.1.c1
 go_wp2_with fail
 with_reducible refine(lw h (KF2.out _ h.out.2.2.2.2)).mono ?_
 clear h xw yw
 rintro e w ⟨rfl,h⟩
 have xv:=h.out.2.2.1.c0
 have yv:=h.out.2.2.1.c1
 go_wp2_with fail
 with_reducible refine(lw_M h (K1.out _ h.out.2.2.2.2)).mono ?_
 clear h xv yv
 rintro e w ⟨ae,ne,ce,be,me,de,rfl,h⟩
 have xv:=h.out.2.2.2.2.1.c0
 have yv:=h.out.2.2.2.2.1.c1
 have xw:=h.out.2.2.1.c0
 have yw:=h.out.2.2.1.c1
 go_wp2_with fail
 with_reducible refine(lw_M h (K2.out _ h.out.2.2.2.2.2.2)).mono ?_
 clear h xv yv xw yw
 rintro e w ⟨af,nf,cf,bf,mf,df,rfl,h⟩
 have xv:=h.out.2.2.2.2.2.2.1.c0
 have yv:=h.out.2.2.2.2.2.2.1.c1
 go_wp2_with fail
 with_reducible refine(lw h (VMay_av h.out.2.2.2.2.2.2.2.1)).mono ?_
 clear h xv yv
 rintro e w ⟨rfl,h⟩
 have xw:=h.out.2.2.2.2.1.c0
 have yw:=h.out.2.2.2.2.1.c1
 go_wp2_with fail
 with_reducible refine(lw h (VMay_av h.out.2.2.2.2.2.1)).mono ?_
 clear h xw yw
 rintro e w ⟨rfl,h⟩
 have xe:=h.out.2.2.1.c0
 have ye:=h.out.2.2.1.c1
 go_wp2_with fail
 with_reducible refine(lw h (VSame_av h.out.2.2.2.1.v (Vl.none_ _) h.out.2.2.2.1.ntt (by omega) rfl rfl)).mono ?_
 clear h xe ye
 rintro e w ⟨rfl,h⟩
 have xf:=h.out.1.c0
 have yf:=h.out.1.c1
 go_wp2_with fail
 with_reducible refine(lw h (VMay_av h.out.2.1)).mono ?_
 clear h xf yf
 rintro e w ⟨rfl,h⟩
 have xv:=h.out.2.2.2.2.2.2.1.c0
 have yv:=h.out.2.2.2.2.2.2.1.c1
 go_wp2_with fail
 with_reducible refine(lw h (VMay_av h.out.2.2.2.2.2.2.2.1)).mono ?_
 clear h xv yv
 rintro e w ⟨rfl,h⟩
 go_wp2_with fail
 go_ret
 exact⟨rfl,h.out.2.2.2.2.2.2.2.2⟩
theorem pmay_ss00 {s:ByteArray} {a1 b1 a2 b2:Option Addr} {n1 c1 m1 d1 n2 c2 m2 d2:Nat} {l m:List Int} {es fs:List ByteArray} {o p:Option Ar} (W:World) (hW:PW W) (h1:Av W a1 n1 c1 b1 m1 d1 l es o) (h2:Av W a2 n2 c2 b2 m2 d2 m fs p) (hf1:fewB l es=true) (hf2:fewB m fs=true) {q:Ar} (ho:o=some q) {t:Ar} (hp:p=some t) (hz:s.size≤maxLen) {k1:Int} (eoneP:oneP s.data.toList (some q)=(none,k1)) (hk1:¬k1=0) {k2:Int} (etwoP:twoP s.data.toList (some q) (some t)=(none,k2)) (hk2:¬k2=0):
 Calls Tryz.prog 4 #[.string s,.agg #[.slice a1 n1 c1,.slice b1 m1 d1],.agg #[.slice a2 n2 c2,.slice b2 m2 d2]] W (TrueEnd W):=by
 have KS:=Lib.hid (fun w (hb:Below W.heap.size W w)=>pshown_is w (hW.below hb))
 have KF1:=fun w (hb:Below W.heap.size W w)=>Few_is (c:=c1) (d:=d1) w (h1.v.below hb) h1.z
 rw[hf1]at KF1
 replace KF1:=Lib.hid KF1
 have KF2:=fun w (hb:Below W.heap.size W w)=>Few_is (c:=c2) (d:=d2) w (h2.v.below hb) h2.z
 rw[hf2]at KF2
 replace KF2:=Lib.hid KF2
 subst ho
 subst hp
 have q1:(k1 != 0)=true:=bne_iff_ne.2 hk1
 have q2:(k2 != 0)=true:=bne_iff_ne.2 hk2
 have K1:=fun w (hb:Below W.heap.size W w)=>POne_is (h1.below hb) (hW.below hb) hz
 rw[eoneP]at K1
 replace K1:=Lib.hid K1
 have K2:=fun w (hb:Below W.heap.size W w)=>PTwo_is (h1.below hb) (h2.below hb) (hW.below hb) hz
 rw[etwoP]at K2
 replace K2:=Lib.hid K2
 have h:=lw_two W h1 h2
 clear hW h1 h2 hf1 hf2 hz eoneP etwoP
 go_enter Tryz.func4,Tryz.ntmps4
 go_wp2_with fail
 with_reducible refine(lw h (KS.out _ h.out.2.2.2.2)).mono ?_
 clear h
 rintro e w ⟨rfl,h⟩
 have xv:=h.out.2.2.1.c0
 have yv:=h.out.2.2.1.c1
 go_wp2_with fail
 with_reducible refine(lw h (KF1.out _ h.out.2.2.2.2)).mono ?_
 clear h xv yv
 rintro e w ⟨rfl,h⟩
 have xw:=h.out.1.c0
 have yw:=h.out.1.c1
 go_wp2_with fail
 with_reducible refine(lw h (KF2.out _ h.out.2.2.2.2)).mono ?_
 clear h xw yw
 rintro e w ⟨rfl,h⟩
 have xv:=h.out.2.2.1.c0
 have yv:=h.out.2.2.1.c1
 go_wp2_with fail
 with_reducible refine(lw_M h (K1.out _ h.out.2.2.2.2)).mono ?_
 clear h xv yv
 rintro e w ⟨ae,ne,ce,be,me,de,rfl,h⟩
 have xv:=h.out.2.2.2.2.1.c0
 have yv:=h.out.2.2.2.2.1.c1
 have xw:=h.out.2.2.1.c0
 have yw:=h.out.2.2.1.c1
 go_wp2_with fail
 with_reducible refine(lw_M h (K2.out _ h.out.2.2.2.2.2.2)).mono ?_
 clear h xv yv xw yw
 rintro e w ⟨af,nf,cf,bf,mf,df,rfl,h⟩
 have xv:=h.out.2.2.2.2.2.2.1.c0
 have yv:=h.out.2.2.2.2.2.2.1.c1
 go_wp2_with fail
 with_reducible refine(lw h (VMay_av h.out.2.2.2.2.2.2.2.1)).mono ?_
 clear h xv yv
 rintro e w ⟨rfl,h⟩
 have xw:=h.out.2.2.2.2.1.c0
 have yw:=h.out.2.2.2.2.1.c1
 go_wp2_with fail
 with_reducible refine(lw h (VMay_av h.out.2.2.2.2.2.1)).mono ?_
 clear h xw yw
 rintro e w ⟨rfl,h⟩
 have xe:=h.out.2.2.1.c0
 have ye:=h.out.2.2.1.c1
 go_wp2_with fail
 with_reducible refine(lw h (VSame_av h.out.2.2.2.1.v (Vl.none_ _) h.out.2.2.2.1.ntt (by omega) rfl rfl)).mono ?_
 clear h xe ye
 rintro e w ⟨rfl,h⟩
 have xf:=h.out.1.c0
 have yf:=h.out.1.c1
 go_wp2_with fail
 with_reducible refine(lw h (VSame_av h.out.2.1.v (Vl.none_ _) h.out.2.1.ntt (by omega) rfl rfl)).mono ?_
 clear h xf yf
 rintro e w ⟨rfl,h⟩
 have xv:=h.out.2.2.2.2.2.2.1.c0
 have yv:=h.out.2.2.2.2.2.2.1.c1
 go_wp2_with fail
 with_reducible refine(lw h (VMay_av h.out.2.2.2.2.2.2.2.1)).mono ?_
 clear h xv yv
 rintro e w ⟨rfl,h⟩
 go_wp2_with fail
 go_ret
 exact⟨rfl,h.out.2.2.2.2.2.2.2.2⟩
theorem pmay_any {s:ByteArray} {a1 b1 a2 b2:Option Addr} {n1 c1 m1 d1 n2 c2 m2 d2:Nat} {l m:List Int} {es fs:List ByteArray} (W:World) (hW:PW W) (hs:s.size≤maxLen) (hV:Vl W a1 n1 b1 m1 l es) (hC:Cp n1 c1 m1 d1) (hZ:∀j,j<m1→(es.getD j ByteArray.empty).size≤maxLen) (hV2:Vl W a2 n2 b2 m2 m fs) (hC2:Cp n2 c2 m2 d2) (hZ2:∀j,j<m2→(fs.getD j ByteArray.empty).size≤maxLen):
 Calls Tryz.prog 4 #[.string s,.agg #[.slice a1 n1 c1,.slice b1 m1 d1],.agg #[.slice a2 n2 c2,.slice b2 m2 d2]] W (TrueEnd W):=by
 obtain⟨o,ho⟩:=ais_ex l es
 obtain⟨p,hp⟩:=ais_ex m fs
 have h1:Av W a1 n1 c1 b1 m1 d1 l es o:=⟨hV,hC,hZ,ho⟩
 have h2:Av W a2 n2 c2 b2 m2 d2 m fs p:=⟨hV2,hC2,hZ2,hp⟩
 rcases Bool.eq_false_or_eq_true (fewB l es)with h|h
 · rcases Bool.eq_false_or_eq_true (fewB m fs)with g|g
   · cases o with
     |none=>exact pmay_n W hW h1 h2 h g rfl hs
     |some q=>cases p with
      |none=>
       rcases oneP_told s.data.toList (some q)with⟨x,e⟩|⟨k,e,hk,_⟩
       · exact pmay_sn1 W hW h1 h2 h g rfl rfl hs e
       · exact pmay_sn0 W hW h1 h2 h g rfl rfl hs e (by omega)
      |some t=>
       rcases oneP_told s.data.toList (some q)with⟨x,e⟩|⟨k,e,hk,_⟩
       · rcases twoP_told s.data.toList (some q) (some t)with⟨y,e2⟩|⟨k2,e2,hk2,_⟩
         · exact pmay_ss11 W hW h1 h2 h g rfl rfl hs e e2
         · exact pmay_ss10 W hW h1 h2 h g rfl rfl hs e e2 (by omega)
       · rcases twoP_told s.data.toList (some q) (some t)with⟨y,e2⟩|⟨k2,e2,hk2,_⟩
         · exact pmay_ss01 W hW h1 h2 h g rfl rfl hs e (by omega) e2
         · exact pmay_ss00 W hW h1 h2 h g rfl rfl hs e (by omega) e2 (by omega)
   · exact pmay_few2 W hW h1 h2 h g
 · exact pmay_few1 W hW h1 h2 h
theorem punit_few {s:ByteArray} {a1 b1:Option Addr} {n1 c1 m1 d1:Nat} {l:List Int} {es:List ByteArray} {o:Option Ar} (W:World) (hW:PW W) (h1:Av W a1 n1 c1 b1 m1 d1 l es o) (hf1:fewB l es=false):
 Calls Tryz.prog 5 #[.string s,.agg #[.slice a1 n1 c1,.slice b1 m1 d1]] W (TrueEnd W):=by
 have KS:=Lib.hid (fun w (hb:Below W.heap.size W w)=>pshown_is w (hW.below hb))
 have KF1:=fun w (hb:Below W.heap.size W w)=>Few_is (c:=c1) (d:=d1) w (h1.v.below hb) h1.z
 rw[hf1]at KF1
 replace KF1:=Lib.hid KF1
 have h:=lw_one W h1
 clear hW h1 hf1
 go_enter Tryz.func5,Tryz.ntmps5
 go_wp2_with fail
 with_reducible refine(lw h (KS.out _ h.out.2.2)).mono ?_
 clear h
 rintro e w ⟨rfl,h⟩
 have xv:=h.out.1.c0
 have yv:=h.out.1.c1
 go_wp2_with fail
 with_reducible refine(lw h (KF1.out _ h.out.2.2)).mono ?_
 clear h xv yv
 rintro e w ⟨rfl,h⟩
 go_wp2_with fail
 go_ret
 exact⟨rfl,h.out.2.2⟩
theorem punit_none {s:ByteArray} {a1 b1:Option Addr} {n1 c1 m1 d1:Nat} {l:List Int} {es:List ByteArray} {o:Option Ar} (W:World) (hW:PW W) (h1:Av W a1 n1 c1 b1 m1 d1 l es o) (hf1:fewB l es=true) (hz:s.size≤maxLen) (eu:unP s.data.toList=none):
 Calls Tryz.prog 5 #[.string s,.agg #[.slice a1 n1 c1,.slice b1 m1 d1]] W (TrueEnd W):=by
 have KS:=Lib.hid (fun w (hb:Below W.heap.size W w)=>pshown_is w (hW.below hb))
 have KF1:=fun w (hb:Below W.heap.size W w)=>Few_is (c:=c1) (d:=d1) w (h1.v.below hb) h1.z
 rw[hf1]at KF1
 replace KF1:=Lib.hid KF1
 have KU:=fun w (hb:Below W.heap.size W w)=>PUnit_is s (hW.below hb).sm.sc hz
 rw[eu]at KU
 replace KU:=Lib.hid KU
 obtain⟨e1,e1'⟩:=two_tl (unP_none eu).1
 obtain⟨e2,e2'⟩:=two_tl (unP_none eu).2
 have h:=lw_one W h1
 clear hW h1 hf1 hz eu
 go_enter Tryz.func5,Tryz.ntmps5
 go_wp2_with fail
 with_reducible refine(lw h (KS.out _ h.out.2.2)).mono ?_
 clear h
 rintro e w ⟨rfl,h⟩
 have xv:=h.out.1.c0
 have yv:=h.out.1.c1
 go_wp2_with fail
 with_reducible refine(lw h (KF1.out _ h.out.2.2)).mono ?_
 clear h xv yv
 rintro e w ⟨rfl,h⟩
 go_wp2_with fail
 with_reducible refine(lw_U h (KU.out _ h.out.2.2)).mono ?_
 clear h
 rintro e w ⟨au,nu,cu,bu,mu,du,rfl,h⟩
 have xu:=h.out.1.c0
 have yu:=h.out.1.c1
 go_wp2_with fail
 with_reducible refine(lw h (VSame_av h.out.2.1.v (Vl.none_ _) h.out.2.1.ntt (by omega) rfl rfl)).mono ?_
 clear h xu yu
 rintro e w ⟨rfl,h⟩
 go_wp2_with fail
 go_ret
 exact⟨rfl,h.out.2.2.2.2⟩
theorem punit_some {s:ByteArray} {a1 b1:Option Addr} {n1 c1 m1 d1:Nat} {l:List Int} {es:List ByteArray} {o:Option Ar} (W:World) (hW:PW W) (h1:Av W a1 n1 c1 b1 m1 d1 l es o) (hf1:fewB l es=true) (hz:s.size≤maxLen) {u:Ar} (eu:unP s.data.toList=some u) {q:Ar} (ho:o=some q):
 Calls Tryz.prog 5 #[.string s,.agg #[.slice a1 n1 c1,.slice b1 m1 d1]] W (TrueEnd W):=by
 have KS:=Lib.hid (fun w (hb:Below W.heap.size W w)=>pshown_is w (hW.below hb))
 have KF1:=fun w (hb:Below W.heap.size W w)=>Few_is (c:=c1) (d:=d1) w (h1.v.below hb) h1.z
 rw[hf1]at KF1
 replace KF1:=Lib.hid KF1
 subst ho
 have KU:=fun w (hb:Below W.heap.size W w)=>PUnit_is s (hW.below hb).sm.sc hz
 rw[eu]at KU
 replace KU:=Lib.hid KU
 obtain⟨rfl,rfl⟩:l=q.1∧es=q.2.map S:=⟨h1.i.1.symm,h1.i.2.1⟩
 obtain⟨eL,eR⟩:=unP_law eu (q:=q) (by rw[prD_is];exact h1.i.len.2.2.2.1) h1.i.2.2.2
 have K1:∀w (hb:Below W.heap.size W w) {au nu cu bu mu du},Av w au nu cu bu mu du (TS (some u)).1 (TS (some u)).2 (some u)→Calls Tryz.prog 11 #[.string s,.agg #[.slice au nu cu,.slice bu mu du],.agg #[.slice a1 n1 c1,.slice b1 m1 d1]] w (MEnd (some q,0) w):=fun w hb _ _ _ _ _ _ hu=>by
  rw[←eL];exact PTwo_is hu (h1.below hb) (hW.below hb) hz
 have K2:∀w (hb:Below W.heap.size W w) {au nu cu bu mu du},Av w au nu cu bu mu du (TS (some u)).1 (TS (some u)).2 (some u)→Calls Tryz.prog 11 #[.string s,.agg #[.slice a1 n1 c1,.slice b1 m1 d1],.agg #[.slice au nu cu,.slice bu mu du]] w (MEnd (some q,0) w):=fun w hb _ _ _ _ _ _ hu=>by
  rw[←eR];exact PTwo_is (h1.below hb) hu (hW.below hb) hz
 replace K1:=Lib.hid @K1
 replace K2:=Lib.hid @K2
 have h:=lw_one W h1
 clear hW h1 hf1 hz eu eL eR
 go_enter Tryz.func5,Tryz.ntmps5
 go_wp2_with fail
 with_reducible refine(lw h (KS.out _ h.out.2.2)).mono ?_
 clear h
 rintro e w ⟨rfl,h⟩
 have xv:=h.out.1.c0
 have yv:=h.out.1.c1
 go_wp2_with fail
 with_reducible refine(lw h (KF1.out _ h.out.2.2)).mono ?_
 clear h xv yv
 rintro e w ⟨rfl,h⟩
 go_wp2_with fail
 with_reducible refine(lw_U h (KU.out _ h.out.2.2)).mono ?_
 clear h
 rintro e w ⟨au,nu,cu,bu,mu,du,rfl,h⟩
 have xu:=h.out.1.c0
 have yu:=h.out.1.c1
 have xv:=h.out.2.2.1.c0
 have yv:=h.out.2.2.1.c1
 go_wp2_with fail
 with_reducible refine(lw_M h (K1.out _ h.out.2.2.2.2 h.out.2.1)).mono ?_
 clear h xu yu xv yv
 rintro e w ⟨ax,nx,cx,bx,mx,dx,rfl,h⟩
 have xv:=h.out.2.2.2.2.1.c0
 have yv:=h.out.2.2.2.2.1.c1
 have xu:=h.out.2.2.1.c0
 have yu:=h.out.2.2.1.c1
 go_wp2_with fail
 with_reducible refine(lw_M h (K2.out _ h.out.2.2.2.2.2.2 h.out.2.2.2.1)).mono ?_
 clear h xv yv xu yu
 rintro e w ⟨az,nz,cz,bz,mz,dz,rfl,h⟩
 have xv:=h.out.2.2.2.2.2.2.1.c0
 have yv:=h.out.2.2.2.2.2.2.1.c1
 go_wp2_with fail
 with_reducible refine(lw h (VMay_av h.out.2.2.2.2.2.2.2.1)).mono ?_
 clear h xv yv
 rintro e w ⟨rfl,h⟩
 have xx:=h.out.2.2.1.c0
 have yx:=h.out.2.2.1.c1
 have xv:=h.out.2.2.2.2.2.2.1.c0
 have yv:=h.out.2.2.2.2.2.2.1.c1
 go_wp2_with fail
 with_reducible refine(lw h (VSame_av h.out.2.2.2.1.v h.out.2.2.2.2.2.2.2.1.v h.out.2.2.2.1.ntt (Nat.le_trans h.out.2.2.2.2.2.2.2.1.n3 (by decide)) rfl rfl)).mono ?_
 clear h xx yx xv yv
 rintro e w ⟨rfl,h⟩
 have xz:=h.out.1.c0
 have yz:=h.out.1.c1
 have xv:=h.out.2.2.2.2.2.2.1.c0
 have yv:=h.out.2.2.2.2.2.2.1.c1
 go_wp2_with fail
 with_reducible refine(lw h (VSame_av h.out.2.1.v h.out.2.2.2.2.2.2.2.1.v h.out.2.1.ntt (Nat.le_trans h.out.2.2.2.2.2.2.2.1.n3 (by decide)) rfl rfl)).mono ?_
 clear h xz yz xv yv
 rintro e w ⟨rfl,h⟩
 go_wp2_with fail
 go_ret
 exact⟨rfl,h.out.2.2.2.2.2.2.2.2⟩
theorem punit_no {s:ByteArray} {a1 b1:Option Addr} {n1 c1 m1 d1:Nat} {l:List Int} {es:List ByteArray} {o:Option Ar} (W:World) (hW:PW W) (h1:Av W a1 n1 c1 b1 m1 d1 l es o) (hf1:fewB l es=true) (hz:s.size≤maxLen) {u:Ar} (eu:unP s.data.toList=some u) (ho:o=none):
 Calls Tryz.prog 5 #[.string s,.agg #[.slice a1 n1 c1,.slice b1 m1 d1]] W (TrueEnd W):=by
 have KS:=Lib.hid (fun w (hb:Below W.heap.size W w)=>pshown_is w (hW.below hb))
 have KF1:=fun w (hb:Below W.heap.size W w)=>Few_is (c:=c1) (d:=d1) w (h1.v.below hb) h1.z
 rw[hf1]at KF1
 replace KF1:=Lib.hid KF1
 subst ho
 have KU:=fun w (hb:Below W.heap.size W w)=>PUnit_is s (hW.below hb).sm.sc hz
 rw[eu]at KU
 replace KU:=Lib.hid KU
 have eL:=twoP_none s.data.toList (o:=some u) (p:=none) rfl
 have eR:=twoP_none s.data.toList (o:=none) (p:=some u) rfl
 have K1:∀w (hb:Below W.heap.size W w) {au nu cu bu mu du},Av w au nu cu bu mu du (TS (some u)).1 (TS (some u)).2 (some u)→Calls Tryz.prog 11 #[.string s,.agg #[.slice au nu cu,.slice bu mu du],.agg #[.slice a1 n1 c1,.slice b1 m1 d1]] w (MEnd (none,1) w):=fun w hb _ _ _ _ _ _ hu=>by
  rw[←eL];exact PTwo_is hu (h1.below hb) (hW.below hb) hz
 have K2:∀w (hb:Below W.heap.size W w) {au nu cu bu mu du},Av w au nu cu bu mu du (TS (some u)).1 (TS (some u)).2 (some u)→Calls Tryz.prog 11 #[.string s,.agg #[.slice a1 n1 c1,.slice b1 m1 d1],.agg #[.slice au nu cu,.slice bu mu du]] w (MEnd (none,1) w):=fun w hb _ _ _ _ _ _ hu=>by
  rw[←eR];exact PTwo_is (h1.below hb) hu (hW.below hb) hz
 replace K1:=Lib.hid @K1
 replace K2:=Lib.hid @K2
 have h:=lw_one W h1
 clear hW h1 hf1 hz eu eL eR
 go_enter Tryz.func5,Tryz.ntmps5
 go_wp2_with fail
 with_reducible refine(lw h (KS.out _ h.out.2.2)).mono ?_
 clear h
 rintro e w ⟨rfl,h⟩
 have xv:=h.out.1.c0
 have yv:=h.out.1.c1
 go_wp2_with fail
 with_reducible refine(lw h (KF1.out _ h.out.2.2)).mono ?_
 clear h xv yv
 rintro e w ⟨rfl,h⟩
 go_wp2_with fail
 with_reducible refine(lw_U h (KU.out _ h.out.2.2)).mono ?_
 clear h
 rintro e w ⟨au,nu,cu,bu,mu,du,rfl,h⟩
 have xu:=h.out.1.c0
 have yu:=h.out.1.c1
 have xv:=h.out.2.2.1.c0
 have yv:=h.out.2.2.1.c1
 go_wp2_with fail
 with_reducible refine(lw_M h (K1.out _ h.out.2.2.2.2 h.out.2.1)).mono ?_
 clear h xu yu xv yv
 rintro e w ⟨ax,nx,cx,bx,mx,dx,rfl,h⟩
 have xv:=h.out.2.2.2.2.1.c0
 have yv:=h.out.2.2.2.2.1.c1
 have xu:=h.out.2.2.1.c0
 have yu:=h.out.2.2.1.c1
 go_wp2_with fail
 with_reducible refine(lw_M h (K2.out _ h.out.2.2.2.2.2.2 h.out.2.2.2.1)).mono ?_
 clear h xv yv xu yu
 rintro e w ⟨az,nz,cz,bz,mz,dz,rfl,h⟩
 have xv:=h.out.2.2.2.2.2.2.1.c0
 have yv:=h.out.2.2.2.2.2.2.1.c1
 go_wp2_with fail
 with_reducible refine(lw h (VMay_av h.out.2.2.2.2.2.2.2.1)).mono ?_
 clear h xv yv
 rintro e w ⟨rfl,h⟩
 go_wp2_with fail
 go_ret
 exact⟨rfl,h.out.2.2.2.2.2.2.2.2⟩
theorem punit_any {s:ByteArray} {a1 b1:Option Addr} {n1 c1 m1 d1:Nat} {l:List Int} {es:List ByteArray} (W:World) (hW:PW W) (hs:s.size≤maxLen) (hV:Vl W a1 n1 b1 m1 l es) (hC:Cp n1 c1 m1 d1) (hZ:∀j,j<m1→(es.getD j ByteArray.empty).size≤maxLen):
 Calls Tryz.prog 5 #[.string s,.agg #[.slice a1 n1 c1,.slice b1 m1 d1]] W (TrueEnd W):=by
 obtain⟨o,ho⟩:=ais_ex l es
 have h1:Av W a1 n1 c1 b1 m1 d1 l es o:=⟨hV,hC,hZ,ho⟩
 rcases Bool.eq_false_or_eq_true (fewB l es)with h|h
 · rcases hu:unP s.data.toList with _|u
   · exact punit_none W hW h1 h hs hu
   · cases o with
     |none=>exact punit_no W hW h1 h hs hu rfl
     |some q=>exact punit_some W hW h1 h hs hu rfl
 · exact punit_few W hW h1 h
theorem pindex_few {a1 b1:Option Addr} {n1 c1 m1 d1:Nat} {l:List Int} {es:List ByteArray} {o:Option Ar} (W:World) (hW:PW W) (h1:Av W a1 n1 c1 b1 m1 d1 l es o) (hf1:fewB l es=false):
 Calls Tryz.prog 6 #[.agg #[.slice a1 n1 c1,.slice b1 m1 d1]] W (TrueEnd W):=by
 have KS:=Lib.hid (fun w (hb:Below W.heap.size W w)=>pshown_is w (hW.below hb))
 have KF1:=fun w (hb:Below W.heap.size W w)=>Few_is (c:=c1) (d:=d1) w (h1.v.below hb) h1.z
 rw[hf1]at KF1
 replace KF1:=Lib.hid KF1
 have h:=lw_one W h1
 clear hW h1 hf1
 go_enter Tryz.func6,Tryz.ntmps6
 go_wp2_with fail
 with_reducible refine(lw h (KS.out _ h.out.2.2)).mono ?_
 clear h
 rintro e w ⟨rfl,h⟩
 have xv:=h.out.1.c0
 have yv:=h.out.1.c1
 go_wp2_with fail
 with_reducible refine(lw h (KF1.out _ h.out.2.2)).mono ?_
 clear h xv yv
 rintro e w ⟨rfl,h⟩
 go_wp2_with fail
 go_ret
 exact⟨rfl,h.out.2.2⟩
theorem pindex_no {a1 b1:Option Addr} {n1 c1 m1 d1:Nat} {l:List Int} {es:List ByteArray} {o:Option Ar} (W:World) (hW:PW W) (h1:Av W a1 n1 c1 b1 m1 d1 l es o) (hf1:fewB l es=true) (ho:o=none):
 Calls Tryz.prog 6 #[.agg #[.slice a1 n1 c1,.slice b1 m1 d1]] W (TrueEnd W):=by
 have KS:=Lib.hid (fun w (hb:Below W.heap.size W w)=>pshown_is w (hW.below hb))
 have KF1:=fun w (hb:Below W.heap.size W w)=>Few_is (c:=c1) (d:=d1) w (h1.v.below hb) h1.z
 rw[hf1]at KF1
 replace KF1:=Lib.hid KF1
 subst ho
 have h:=lw_one W h1
 clear hW h1 hf1
 go_enter Tryz.func6,Tryz.ntmps6
 go_wp2_with fail
 with_reducible refine(lw h (KS.out _ h.out.2.2)).mono ?_
 clear h
 rintro e w ⟨rfl,h⟩
 have xv:=h.out.1.c0
 have yv:=h.out.1.c1
 go_wp2_with fail
 with_reducible refine(lw h (KF1.out _ h.out.2.2)).mono ?_
 clear h xv yv
 rintro e w ⟨rfl,h⟩
 have xv:=h.out.1.c0
 have yv:=h.out.1.c1
 go_wp2_with fail
 with_reducible refine(lw h (VMay_av h.out.2.1)).mono ?_
 clear h xv yv
 rintro e w ⟨rfl,h⟩
 go_wp2_with fail
 go_ret
 exact⟨rfl,h.out.2.2⟩
theorem pindex_0 {a1 b1:Option Addr} {n1 c1 m1 d1:Nat} {l:List Int} {es:List ByteArray} {o:Option Ar} (W:World) (hW:PW W) (h1:Av W a1 n1 c1 b1 m1 d1 l es o) (hf1:fewB l es=true) {q:Ar} (ho:o=some q) (hn:n1=0):
 Calls Tryz.prog 6 #[.agg #[.slice a1 n1 c1,.slice b1 m1 d1]] W (TrueEnd W):=by
 have KS:=Lib.hid (fun w (hb:Below W.heap.size W w)=>pshown_is w (hW.below hb))
 have KF1:=fun w (hb:Below W.heap.size W w)=>Few_is (c:=c1) (d:=d1) w (h1.v.below hb) h1.z
 rw[hf1]at KF1
 replace KF1:=Lib.hid KF1
 subst ho
 subst hn
 have h:=lw_one W h1
 clear hW h1 hf1
 go_enter Tryz.func6,Tryz.ntmps6
 go_wp2_with fail
 with_reducible refine(lw h (KS.out _ h.out.2.2)).mono ?_
 clear h
 rintro e w ⟨rfl,h⟩
 have xv:=h.out.1.c0
 have yv:=h.out.1.c1
 go_wp2_with fail
 with_reducible refine(lw h (KF1.out _ h.out.2.2)).mono ?_
 clear h xv yv
 rintro e w ⟨rfl,h⟩
 have xv:=h.out.1.c0
 have yv:=h.out.1.c1
 go_wp2_with fail
 with_reducible refine(lw h (VMay_av h.out.2.1)).mono ?_
 clear h xv yv
 rintro e w ⟨rfl,h⟩
 have xv:=h.out.1.c0
 have yv:=h.out.1.c1
 go_wp2_with fail
 go_ret
 exact⟨rfl,h.out.2.2⟩
theorem pindex_big {a1 b1:Option Addr} {n1 c1 m1 d1:Nat} {l:List Int} {es:List ByteArray} {o:Option Ar} (W:World) (hW:PW W) (h1:Av W a1 n1 c1 b1 m1 d1 l es o) (hf1:fewB l es=true) {q:Ar} (ho:o=some q) (hn:0<n1) (hx:4096<l.getD 0 0):
 Calls Tryz.prog 6 #[.agg #[.slice a1 n1 c1,.slice b1 m1 d1]] W (TrueEnd W):=by
 have KS:=Lib.hid (fun w (hb:Below W.heap.size W w)=>pshown_is w (hW.below hb))
 have KF1:=fun w (hb:Below W.heap.size W w)=>Few_is (c:=c1) (d:=d1) w (h1.v.below hb) h1.z
 rw[hf1]at KF1
 replace KF1:=Lib.hid KF1
 subst ho
 have hsl:=h1.v.s
 obtain⟨ab,ao,rfl,hcl⟩:=hsl.2 (by omega)
 have hc0:W.cell? ⟨ab,ao,none⟩=some (.int .i64 (l.getD 0 0)):=hcl 0 (by omega)
 have hcl0:=World.block_lt_of_cell? W _ hc0
 have HC:=Lib.hid (fun w (hb:Below W.heap.size W w)=>(hb.cell (p:=⟨ab,ao,none⟩) hcl0).trans hc0)
 have hn3:((n1:Int)==0)=false:=beq_false_of_ne (by omega)
 clear hsl hcl hc0 hcl0
 generalize l.getD 0 0=xx at*
 have h:=lw_one W h1
 clear hW h1 hf1
 go_enter Tryz.func6,Tryz.ntmps6
 go_wp2_with fail
 with_reducible refine(lw h (KS.out _ h.out.2.2)).mono ?_
 clear h
 rintro e w ⟨rfl,h⟩
 have xv:=h.out.1.c0
 have yv:=h.out.1.c1
 go_wp2_with fail
 with_reducible refine(lw h (KF1.out _ h.out.2.2)).mono ?_
 clear h xv yv
 rintro e w ⟨rfl,h⟩
 have xv:=h.out.1.c0
 have yv:=h.out.1.c1
 go_wp2_with fail
 with_reducible refine(lw h (VMay_av h.out.2.1)).mono ?_
 clear h xv yv
 rintro e w ⟨rfl,h⟩
 have cc:=HC.out _ h.out.2.2
 have xv:=h.out.1.c0
 have yv:=h.out.1.c1
 go_wp2_with fail
 go_ret
 exact⟨rfl,h.out.2.2⟩
theorem pindex_yes {a1 b1:Option Addr} {n1 c1 m1 d1:Nat} {l:List Int} {es:List ByteArray} {o:Option Ar} (W:World) (hW:PW W) (h1:Av W a1 n1 c1 b1 m1 d1 l es o) (hf1:fewB l es=true) {q:Ar} (ho:o=some q) (hn:0<n1) (hx:l.getD 0 0≤4096):
 Calls Tryz.prog 6 #[.agg #[.slice a1 n1 c1,.slice b1 m1 d1]] W (TrueEnd W):=by
 have KS:=Lib.hid (fun w (hb:Below W.heap.size W w)=>pshown_is w (hW.below hb))
 have KF1:=fun w (hb:Below W.heap.size W w)=>Few_is (c:=c1) (d:=d1) w (h1.v.below hb) h1.z
 rw[hf1]at KF1
 replace KF1:=Lib.hid KF1
 subst ho
 have hn3:((n1:Int)==0)=false:=beq_false_of_ne (by omega)
 have hsl:=h1.v.s
 obtain⟨ab,ao,rfl,hcl⟩:=hsl.2 (by omega)
 have hc0:W.cell? ⟨ab,ao,none⟩=some (.int .i64 (l.getD 0 0)):=hcl 0 (by omega)
 have hcl0:=World.block_lt_of_cell? W _ hc0
 have HC:=Lib.hid (fun w (hb:Below W.heap.size W w)=>(hb.cell (p:=⟨ab,ao,none⟩) hcl0).trans hc0)
 have hx2:¬4096<l.getD 0 0:=by omega
 obtain⟨rfl,rfl⟩:l=q.1∧es=q.2.map S:=⟨h1.i.1.symm,h1.i.2.1⟩
 have hne:q.1≠[]:=fun e=>by have:=hsl.1;rw[e]at this;simp at this;omega
 have e1:=ix_all h1.fits hne hx
 have e2:=rs_all h1.fits
 obtain⟨z1,hz1⟩:∃z,z=(([],[q.1.getD 0 0]):Ar):=⟨_,rfl⟩
 obtain⟨z2,hz2⟩:∃z,z=(([q.1.getD 0 0],upM (nI q.1)):Ar):=⟨_,rfl⟩
 obtain⟨z3,hz3⟩:∃z,z=(([(q.1.length:Int)],q.1):Ar):=⟨_,rfl⟩
 obtain⟨z4,hz4⟩:∃z,z=(([(q.2.length:Int)],q.2):Ar):=⟨_,rfl⟩
 rw[←hz1,←hz2]at e1
 rw[←hz3,←hz4]at e2
 have KW:=Lib.hid (fun w (hb:Below W.heap.size W w)=>hW.below hb)
 have F1:=Lib.hid ((show oneP [35] (some q)=taM (some q)by simp[oneP,kmL]).trans e1.1)
 have F2:=Lib.hid ((show oneP [33] (some z1)=ioM (some z1)by simp[oneP,kmL]).trans e1.2.1)
 have F3:=Lib.hid ((show twoP [64] (some q) (some z2)=ixK (some q) (some z2)by simp[twoP,kdL]).trans e1.2.2)
 have F4:=Lib.hid ((show oneP [61] (some q)=shM (some q)by simp[oneP,kmL]).trans e2.1)
 have F5:=Lib.hid ((show oneP [44] (some q)=raM (some q)by simp[oneP,kmL]).trans e2.2.1)
 have F6:=Lib.hid ((show twoP [35] (some z3) (some z4)=rsM (some z3) (some z4)by simp[twoP,kdL]).trans e2.2.2)
 clear hsl hcl hc0 hcl0 e1 e2 hz1 hz2 hz3 hz4 hne hx
 generalize q.1.getD 0 0=xx at*
 have h:=lw_one W h1
 clear hW h1 hf1
 go_enter Tryz.func6,Tryz.ntmps6
 go_wp2_with fail
 with_reducible refine(lw h (KS.out _ h.out.2.2)).mono ?_
 clear h
 rintro e w ⟨rfl,h⟩
 have xv:=h.out.1.c0
 have yv:=h.out.1.c1
 go_wp2_with fail
 with_reducible refine(lw h (KF1.out _ h.out.2.2)).mono ?_
 clear h xv yv
 rintro e w ⟨rfl,h⟩
 have xv:=h.out.1.c0
 have yv:=h.out.1.c1
 go_wp2_with fail
 with_reducible refine(lw h (VMay_av h.out.2.1)).mono ?_
 clear h xv yv
 rintro e w ⟨rfl,h⟩
 have cc:=HC.out _ h.out.2.2
 have HIe:=POne_is (s:=⟨#[35]⟩) h.out.2.1 (KW.out _ h.out.2.2) (by decide)
 rw[show(⟨#[35]⟩:ByteArray).data.toList=[35]from rfl,F1.out]at HIe
 replace HIe:=Lib.hid HIe
 have xv:=h.out.1.c0
 have yv:=h.out.1.c1
 go_wp2_with fail
 with_reducible refine(lw_M h (HIe.out)).mono ?_
 clear h xv yv
 rintro e w ⟨ae,ne,ce,be,me,de,rfl,h⟩
 clear HIe
 clear cc
 have HIf:=POne_is (s:=⟨#[33]⟩) h.out.2.1 (KW.out _ h.out.2.2.2.2) (by decide)
 rw[show(⟨#[33]⟩:ByteArray).data.toList=[33]from rfl,F2.out]at HIf
 replace HIf:=Lib.hid HIf
 have xe:=h.out.1.c0
 have ye:=h.out.1.c1
 go_wp2_with fail
 with_reducible refine(lw_M h (HIf.out)).mono ?_
 clear h xe ye
 rintro e w ⟨af,nf,cf,bf,mf,df,rfl,h⟩
 clear HIf
 have HIx:=PTwo_is (s:=⟨#[64]⟩) h.out.2.2.2.2.2.1 h.out.2.1 (KW.out _ h.out.2.2.2.2.2.2) (by decide)
 rw[show(⟨#[64]⟩:ByteArray).data.toList=[64]from rfl,F3.out]at HIx
 replace HIx:=Lib.hid HIx
 have xv:=h.out.2.2.2.2.1.c0
 have yv:=h.out.2.2.2.2.1.c1
 have xf:=h.out.1.c0
 have yf:=h.out.1.c1
 go_wp2_with fail
 with_reducible refine(lw_M h (HIx.out)).mono ?_
 clear h xv yv xf yf
 rintro e w ⟨ax,nx,cx,bx,mx,dx,rfl,h⟩
 clear HIx
 have HIg:=POne_is (s:=⟨#[61]⟩) h.out.2.2.2.2.2.2.2.1 (KW.out _ h.out.2.2.2.2.2.2.2.2) (by decide)
 rw[show(⟨#[61]⟩:ByteArray).data.toList=[61]from rfl,F4.out]at HIg
 replace HIg:=Lib.hid HIg
 have xv:=h.out.2.2.2.2.2.2.1.c0
 have yv:=h.out.2.2.2.2.2.2.1.c1
 go_wp2_with fail
 with_reducible refine(lw_M h (HIg.out)).mono ?_
 clear h xv yv
 rintro e w ⟨ag,ng,cg,bg,mg,dg,rfl,h⟩
 clear HIg
 have HIr:=POne_is (s:=⟨#[44]⟩) h.out.2.2.2.2.2.2.2.2.2.1 (KW.out _ h.out.2.2.2.2.2.2.2.2.2.2) (by decide)
 rw[show(⟨#[44]⟩:ByteArray).data.toList=[44]from rfl,F5.out]at HIr
 replace HIr:=Lib.hid HIr
 have xv:=h.out.2.2.2.2.2.2.2.2.1.c0
 have yv:=h.out.2.2.2.2.2.2.2.2.1.c1
 go_wp2_with fail
 with_reducible refine(lw_M h (HIr.out)).mono ?_
 clear h xv yv
 rintro e w ⟨ar,nr,cr,br,mr,dr,rfl,h⟩
 clear HIr
 have HIz:=PTwo_is (s:=⟨#[35]⟩) h.out.2.2.2.1 h.out.2.1 (KW.out _ h.out.2.2.2.2.2.2.2.2.2.2.2.2) (by decide)
 rw[show(⟨#[35]⟩:ByteArray).data.toList=[35]from rfl,F6.out]at HIz
 replace HIz:=Lib.hid HIz
 have xg:=h.out.2.2.1.c0
 have yg:=h.out.2.2.1.c1
 have xr:=h.out.1.c0
 have yr:=h.out.1.c1
 go_wp2_with fail
 with_reducible refine(lw_M h (HIz.out)).mono ?_
 clear h xg yg xr yr
 rintro e w ⟨az,nz,cz,bz,mz,dz,rfl,h⟩
 clear HIz
 have xx:=h.out.2.2.2.2.2.2.1.c0
 have yx:=h.out.2.2.2.2.2.2.1.c1
 have xv:=h.out.2.2.2.2.2.2.2.2.2.2.2.2.1.c0
 have yv:=h.out.2.2.2.2.2.2.2.2.2.2.2.2.1.c1
 go_wp2_with fail
 with_reducible refine(lw h (VSame_av h.out.2.2.2.2.2.2.2.1.v h.out.2.2.2.2.2.2.2.2.2.2.2.2.2.1.v h.out.2.2.2.2.2.2.2.1.ntt (Nat.le_trans h.out.2.2.2.2.2.2.2.2.2.2.2.2.2.1.n3 (by decide)) rfl rfl)).mono ?_
 clear h xx yx xv yv
 rintro e w ⟨rfl,h⟩
 have xz:=h.out.1.c0
 have yz:=h.out.1.c1
 have xv:=h.out.2.2.2.2.2.2.2.2.2.2.2.2.1.c0
 have yv:=h.out.2.2.2.2.2.2.2.2.2.2.2.2.1.c1
 go_wp2_with fail
 with_reducible refine(lw h (VSame_av h.out.2.1.v h.out.2.2.2.2.2.2.2.2.2.2.2.2.2.1.v h.out.2.1.ntt (Nat.le_trans h.out.2.2.2.2.2.2.2.2.2.2.2.2.2.1.n3 (by decide)) rfl rfl)).mono ?_
 clear h xz yz xv yv
 rintro e w ⟨rfl,h⟩
 go_wp2_with fail
 go_ret
 exact⟨rfl,h.out.2.2.2.2.2.2.2.2.2.2.2.2.2.2⟩
theorem pindex_any {a1 b1:Option Addr} {n1 c1 m1 d1:Nat} {l:List Int} {es:List ByteArray} (W:World) (hW:PW W) (hV:Vl W a1 n1 b1 m1 l es) (hC:Cp n1 c1 m1 d1) (hZ:∀j,j<m1→(es.getD j ByteArray.empty).size≤maxLen):
 Calls Tryz.prog 6 #[.agg #[.slice a1 n1 c1,.slice b1 m1 d1]] W (TrueEnd W):=by
 obtain⟨o,ho⟩:=ais_ex l es
 have h1:Av W a1 n1 c1 b1 m1 d1 l es o:=⟨hV,hC,hZ,ho⟩
 rcases Bool.eq_false_or_eq_true (fewB l es)with h|h
 · cases o with
   |none=>exact pindex_no W hW h1 h rfl
   |some q=>
    by_cases hn:n1=0
    · exact pindex_0 W hW h1 h rfl hn
    · by_cases hx:4096<l.getD 0 0
      · exact pindex_big W hW h1 h rfl (by omega) hx
      · exact pindex_yes W hW h1 h rfl (by omega) (by omega)
 · exact pindex_few W hW h1 h
end Go.Proofs.YtcfbjdplhgdpfaaGreatDoor

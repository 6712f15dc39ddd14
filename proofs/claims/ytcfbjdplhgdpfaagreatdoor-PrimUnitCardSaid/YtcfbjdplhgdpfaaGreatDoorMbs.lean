import Derived.Test.YtcfbjdplhgdpfaaGreatDoorMao
import Derived.Test.YtcfbjdplhgdpfaaGreatDoorMbh
import Derived.Test.YtcfbjdplhgdpfaaGreatDoorMbr
import Derived.Test.YtcfbjdplhgdpfaaGreatDoorMbg
import Derived.Test.YtcfbjdplhgdpfaaGreatDoorMbf
import Derived.Test.YtcfbjdplhgdpfaaGreatDoorMba
import Derived.Test.YtcfbjdplhgdpfaaGreatDoorMbj
set_option maxHeartbeats 3200000
set_option maxRecDepth 100000
namespace Go.Proofs.YtcfbjdplhgdpfaaGreatDoor
set_option linter.unusedVariables false
set_option linter.unusedSimpArgs false
open Go.RowKit Go.Maps Go.MapKept Go.WideMaps
structure PW (W:World):Prop where
 sm:SM W
 wt:WT W
theorem PW.below {w w':World} (h:PW w) (hb:Below w.heap.size w w'):PW w':=⟨h.sm.below hb,h.wt.below hb⟩
theorem aend_mend {r:Option Ar×Int} {W w:World} {e:Ending} (ha:AIs (TS r.1).1 (TS r.1).2 r.1) (h:AEnd (TS r.1).1 (TS r.1).2 r.2 W e w):MEnd r W e w:=by
 obtain⟨a,n,c,b,m,d,rfl,hv,hc,hb⟩:=h
 exact⟨a,n,c,b,m,d,rfl,⟨hv,hc,ts_sz ha hv.t.1.symm,ha⟩,hb⟩
theorem spOne_f {s:ByteArray} {a1 b1:Option Addr} {n1 c1 m1 d1:Nat} {W:World} {r:Option Ar×Int} (hc:∀w,Below W.heap.size W w→Calls Tryz.prog 109 #[.string s,.agg #[.slice a1 n1 c1,.slice b1 m1 d1]] w (MEnd r w)):
 Calls Tryz.prog 57 #[.string s,.agg #[.slice a1 n1 c1,.slice b1 m1 d1]] W (MEnd r W):=by
 have KC:=Lib.hid hc
 clear hc
 have h:=live1 W a1 n1 c1 b1 m1 d1
 go_enter Tryz.func57,Tryz.ntmps57
 have x1:=h.out.2.1.c0
 have y1:=h.out.2.1.c1
 go_wp2_with fail
 refine(KC.out _ h.out.2.2).mono ?_
 rintro e w2 ⟨ar,nr,cr,br,mr,dr,rfl,hv,hq⟩
 replace h:=live_to h hq
 have HV:=Lib.hid hv
 clear hv hq x1 y1
 have y0:=h.out.1.c0
 have y3:=h.out.1.c1
 have f0:=h.out.1.f 0
 have f1:=h.out.1.f 1
 go_wp2_with fail
 have hR:=h.out.1.set ar nr cr br mr dr
 have r0:=hR.c0
 have r1:=hR.c1
 exact bodyPost_ret (v:=.tuple #[.agg #[.slice ar nr cr,.slice br mr dr],.int .i64 r.2]) (by simp[results,Tryz.results57,go_sem,r0,r1]) rfl (mend_box (r:=r) h.out.1 h.out.2.2 (by omega) HV.out.v HV.out.c HV.out.i.rok)
theorem spOne_is {s:ByteArray} {a1 b1:Option Addr} {n1 c1 m1 d1:Nat} {W:World} {l:List Int} {es:List ByteArray} {o:Option Ar} (h1:Av W a1 n1 c1 b1 m1 d1 l es o) (hW:PW W) (hz:s.size≤maxLen):Calls Tryz.prog 57 #[.string s,.agg #[.slice a1 n1 c1,.slice b1 m1 d1]] W (MEnd (mnA (kmL s.data.toList) o) W):=
 spOne_f fun w hb=>(SMonad_is _ (hW.sm.below hb) hz (h1.below hb).v h1.z h1.i).mono fun _ _ h=>aend_mend (mnA_is h1.i) h
theorem POne_f {s:ByteArray} {a1 b1:Option Addr} {n1 c1 m1 d1:Nat} {W:World} {f:Nat} {r:Option Ar×Int} (hz:s.size≤maxLen) (hW:SM W) (hf:s=⟨#[33]⟩∧f=46∨s=⟨#[35]⟩∧f=47∨s=⟨#[61]⟩∧f=48∨s=⟨#[44]⟩∧f=49∨s=⟨#[124]⟩∧f=50∨s=⟨#[43]⟩∧f=51∨s=⟨#[60]⟩∧f=52∨s=⟨#[62]⟩∧f=53∨s=⟨#[38]⟩∧f=54∨s=⟨#[63]⟩∧f=55) (hc:∀w,Below W.heap.size W w→Calls Tryz.prog f #[.agg #[.slice a1 n1 c1,.slice b1 m1 d1]] w (MEnd r w)):
 Calls Tryz.prog 9 #[.string s,.agg #[.slice a1 n1 c1,.slice b1 m1 d1]] W (MEnd r W):=by
 have h:=live1 W a1 n1 c1 b1 m1 d1
 have KM:=Lib.hid fun w (hb:Below W.heap.size W w)=>ofOne_is s (hW.below hb)
 rcases hf with⟨rfl,rfl⟩|⟨rfl,rfl⟩|⟨rfl,rfl⟩|⟨rfl,rfl⟩|⟨rfl,rfl⟩|⟨rfl,rfl⟩|⟨rfl,rfl⟩|⟨rfl,rfl⟩|⟨rfl,rfl⟩|⟨rfl,rfl⟩
 all_goals
  have KC:=Lib.hid hc
  clear hW hc
  go_enter Tryz.func9,Tryz.ntmps9
  go_wp2_with fail
  refine(KM.out _ h.out.2.2).mono ?_
  rintro e w1 ⟨bm,rfl,hT,hq⟩
  have hl:=sq_look hT Tryz.underlying45 Tryz.underlying30 rfl hz rfl
  replace h:=live_to h hq
  clear hT hq KM
  have x1:=h.out.2.1.c0
  have y1:=h.out.2.1.c1
  go_wp2_with fail
  refine(KC.out _ h.out.2.2).mono ?_
  rintro e w2 ⟨ar,nr,cr,br,mr,dr,rfl,hv,hq⟩
  replace h:=live_to h hq
  have HV:=Lib.hid hv
  clear hv hq x1 y1
  have y0:=h.out.1.c0
  have y3:=h.out.1.c1
  have f0:=h.out.1.f 0
  have f1:=h.out.1.f 1
  go_wp2_with fail
  have hR:=h.out.1.set ar nr cr br mr dr
  have r0:=hR.c0
  have r1:=hR.c1
  exact bodyPost_ret (v:=.tuple #[.agg #[.slice ar nr cr,.slice br mr dr],.int .i64 r.2]) (by simp[results,Tryz.results9,go_sem,r0,r1]) rfl (mend_box (r:=r) h.out.1 h.out.2.2 (by omega) HV.out.v HV.out.c HV.out.i.rok)
theorem POne_g {s:ByteArray} {a1 b1:Option Addr} {n1 c1 m1 d1:Nat} {W:World} {r:Option Ar×Int} (hz:s.size≤maxLen) (hW:SM W) (hf:finK (MOne s) s=[.func (.func 57) #[.string s] #[]]) (hc:∀w,Below W.heap.size W w→Calls Tryz.prog 57 #[.string s,.agg #[.slice a1 n1 c1,.slice b1 m1 d1]] w (MEnd r w)):
 Calls Tryz.prog 9 #[.string s,.agg #[.slice a1 n1 c1,.slice b1 m1 d1]] W (MEnd r W):=by
 have KM:=Lib.hid fun w (hb:Below W.heap.size W w)=>ofOne_is s (hW.below hb)
 have KC:=Lib.hid hc
 have KF:=Lib.hid (And.intro hz hf)
 clear hW hc hf hz
 have h:=live1 W a1 n1 c1 b1 m1 d1
 go_enter Tryz.func9,Tryz.ntmps9
 go_wp2_with fail
 refine(KM.out _ h.out.2.2).mono ?_
 rintro e w1 ⟨bm,rfl,hT,hq⟩
 have hl:=sq_look hT Tryz.underlying45 Tryz.underlying30 rfl KF.out.1 KF.out.2
 replace h:=live_to h hq
 clear hT hq KM KF
 have x1:=h.out.2.1.c0
 have y1:=h.out.2.1.c1
 go_wp2_with fail
 refine(KC.out _ h.out.2.2).mono ?_
 rintro e w2 ⟨ar,nr,cr,br,mr,dr,rfl,hv,hq⟩
 replace h:=live_to h hq
 have HV:=Lib.hid hv
 clear hv hq x1 y1
 have y0:=h.out.1.c0
 have y3:=h.out.1.c1
 have f0:=h.out.1.f 0
 have f1:=h.out.1.f 1
 go_wp2_with fail
 have hR:=h.out.1.set ar nr cr br mr dr
 have r0:=hR.c0
 have r1:=hR.c1
 exact bodyPost_ret (v:=.tuple #[.agg #[.slice ar nr cr,.slice br mr dr],.int .i64 r.2]) (by simp[results,Tryz.results9,go_sem,r0,r1]) rfl (mend_box (r:=r) h.out.1 h.out.2.2 (by omega) HV.out.v HV.out.c HV.out.i.rok)
theorem POne_no {s:ByteArray} {a1 b1:Option Addr} {n1 c1 m1 d1:Nat} {W:World} (hz:s.size≤maxLen) (hW:SM W) (hf:finK (MOne s) s=[]):Calls Tryz.prog 9 #[.string s,.agg #[.slice a1 n1 c1,.slice b1 m1 d1]] W (MEnd (none,1) W):=by
 have KM:=Lib.hid fun w (hb:Below W.heap.size W w)=>ofOne_is s (hW.below hb)
 have KF:=Lib.hid (And.intro hz hf)
 clear hW hf hz
 have h:=live1 W a1 n1 c1 b1 m1 d1
 go_enter Tryz.func9,Tryz.ntmps9
 go_wp2_with fail
 refine(KM.out _ h.out.2.2).mono ?_
 rintro e w1 ⟨bm,rfl,hT,hq⟩
 have hl:=sq_miss hT Tryz.underlying45 Tryz.underlying30 rfl KF.out.1 (zv:=.nilFunc) (by kernel_rfl) KF.out.2
 replace h:=live_to h hq
 clear hT hq KM KF
 have y0:=h.out.1.c0
 have y3:=h.out.1.c1
 have f0:=h.out.1.f 0
 have f1:=h.out.1.f 1
 go_wp2_with fail
 have hR:=h.out.1.set none 0 0 none 0 0
 have r0:=hR.c0
 have r1:=hR.c1
 exact bodyPost_ret (v:=.tuple #[.agg #[.slice none 0 0,.slice none 0 0],.int .i64 1]) (by simp[results,Tryz.results9,go_sem,r0,r1]) rfl (mend_no h.out.1 h.out.2.2 (by omega))
theorem POne_is {s:ByteArray} {a1 b1:Option Addr} {n1 c1 m1 d1:Nat} {W:World} {l:List Int} {es:List ByteArray} {o:Option Ar} (h1:Av W a1 n1 c1 b1 m1 d1 l es o) (hW:PW W) (hz:s.size≤maxLen):Calls Tryz.prog 9 #[.string s,.agg #[.slice a1 n1 c1,.slice b1 m1 d1]] W (MEnd (oneP s.data.toList o) W):=by
 by_cases e0:s.data.toList=[33]
 · obtain rfl:s=⟨#[33]⟩:=text_eq e0
   exact POne_f hz hW.sm (f:=46) (by simp) fun w hb=>MIota_is (h1.below hb) (hW.wt.below hb)
 by_cases e1:s.data.toList=[35]
 · obtain rfl:s=⟨#[35]⟩:=text_eq e1
   exact POne_f hz hW.sm (f:=47) (by simp) fun w hb=>MTally_is (h1.below hb) (hW.wt.below hb)
 by_cases e2:s.data.toList=[61]
 · obtain rfl:s=⟨#[61]⟩:=text_eq e2
   exact POne_f hz hW.sm (f:=48) (by simp) fun w hb=>MShape_is (h1.below hb) (hW.wt.below hb)
 by_cases e3:s.data.toList=[44]
 · obtain rfl:s=⟨#[44]⟩:=text_eq e3
   exact POne_f hz hW.sm (f:=49) (by simp) fun w hb=>MRavel_is (h1.below hb)
 by_cases e4:s.data.toList=[124]
 · obtain rfl:s=⟨#[124]⟩:=text_eq e4
   exact POne_f hz hW.sm (f:=50) (by simp) fun w hb=>MReverse_is (h1.below hb)
 by_cases e5:s.data.toList=[43]
 · obtain rfl:s=⟨#[43]⟩:=text_eq e5
   exact POne_f hz hW.sm (f:=51) (by simp) fun w hb=>MFlip_is (h1.below hb)
 by_cases e6:s.data.toList=[60]
 · obtain rfl:s=⟨#[60]⟩:=text_eq e6
   exact POne_f hz hW.sm (f:=52) (by simp) fun w hb=>SUp_is (h1.below hb) (hW.wt.below hb)
 by_cases e7:s.data.toList=[62]
 · obtain rfl:s=⟨#[62]⟩:=text_eq e7
   exact POne_f hz hW.sm (f:=53) (by simp) fun w hb=>SDown_is (h1.below hb) (hW.wt.below hb)
 by_cases e8:s.data.toList=[38]
 · obtain rfl:s=⟨#[38]⟩:=text_eq e8
   exact POne_f hz hW.sm (f:=54) (by simp) fun w hb=>SWhere_is (h1.below hb) (hW.wt.below hb)
 by_cases e9:s.data.toList=[63]
 · obtain rfl:s=⟨#[63]⟩:=text_eq e9
   exact POne_f hz hW.sm (f:=55) (by simp) fun w hb=>SUnique_is (h1.below hb) (hW.wt.below hb)
 by_cases e10:s.data.toList=[45]
 · obtain rfl:s=⟨#[45]⟩:=text_eq e10
   exact POne_g hz hW.sm rfl fun w hb=>spOne_is (h1.below hb) (hW.below hb) hz
 by_cases e11:s.data.toList=[126]
 · obtain rfl:s=⟨#[126]⟩:=text_eq e11
   exact POne_g hz hW.sm rfl fun w hb=>spOne_is (h1.below hb) (hW.below hb) hz
 by_cases e12:s.data.toList=[42]
 · obtain rfl:s=⟨#[42]⟩:=text_eq e12
   exact POne_g hz hW.sm rfl fun w hb=>spOne_is (h1.below hb) (hW.below hb) hz
 rw[show oneP s.data.toList o=(none,1)by simp[oneP,kmL,e0,e1,e2,e3,e4,e5,e6,e7,e8,e9,e10,e11,e12]]
 refine POne_no hz hW.sm ?_
 simp only[finK,MOne,LOne,GOne,List.map_cons,List.map_nil,List.cons_append,List.nil_append,List.filter_cons,List.filter_nil]
 simp[Ne.symm e0,Ne.symm e1,Ne.symm e2,Ne.symm e3,Ne.symm e4,Ne.symm e5,Ne.symm e6,Ne.symm e7,Ne.symm e8,Ne.symm e9,Ne.symm e10,Ne.symm e11,Ne.symm e12]
theorem spTwo_f {s:ByteArray} {a1 b1 a2 b2:Option Addr} {n1 c1 m1 d1 n2 c2 m2 d2:Nat} {W:World} {r:Option Ar×Int} (hc:∀w,Below W.heap.size W w→Calls Tryz.prog 126 #[.string s,.agg #[.slice a1 n1 c1,.slice b1 m1 d1],.agg #[.slice a2 n2 c2,.slice b2 m2 d2]] w (MEnd r w)):
 Calls Tryz.prog 79 #[.string s,.agg #[.slice a1 n1 c1,.slice b1 m1 d1],.agg #[.slice a2 n2 c2,.slice b2 m2 d2]] W (MEnd r W):=by
 have KC:=Lib.hid hc
 clear hc
 have h:=live2 W a1 n1 c1 b1 m1 d1 a2 n2 c2 b2 m2 d2
 go_enter Tryz.func79,Tryz.ntmps79
 have x1:=h.out.2.2.1.c0
 have y1:=h.out.2.2.1.c1
 have x2:=h.out.2.1.c0
 have y2:=h.out.2.1.c1
 go_wp2_with fail
 refine(KC.out _ h.out.2.2.2).mono ?_
 rintro e w2 ⟨ar,nr,cr,br,mr,dr,rfl,hv,hq⟩
 replace h:=live_to h hq
 have HV:=Lib.hid hv
 clear hv hq x1 y1 x2 y2
 have y0:=h.out.1.c0
 have y3:=h.out.1.c1
 have f0:=h.out.1.f 0
 have f1:=h.out.1.f 1
 go_wp2_with fail
 have hR:=h.out.1.set ar nr cr br mr dr
 have r0:=hR.c0
 have r1:=hR.c1
 exact bodyPost_ret (v:=.tuple #[.agg #[.slice ar nr cr,.slice br mr dr],.int .i64 r.2]) (by simp[results,Tryz.results79,go_sem,r0,r1]) rfl (mend_box (r:=r) h.out.1 h.out.2.2.2 (by omega) HV.out.v HV.out.c HV.out.i.rok)
theorem spTwo_is {s:ByteArray} {a1 b1 a2 b2:Option Addr} {n1 c1 m1 d1 n2 c2 m2 d2:Nat} {W:World} {l m:List Int} {es fs:List ByteArray} {o p:Option Ar} (h1:Av W a1 n1 c1 b1 m1 d1 l es o) (h2:Av W a2 n2 c2 b2 m2 d2 m fs p) (hW:PW W) (hz:s.size≤maxLen):Calls Tryz.prog 79 #[.string s,.agg #[.slice a1 n1 c1,.slice b1 m1 d1],.agg #[.slice a2 n2 c2,.slice b2 m2 d2]] W (MEnd (dyA (kdL s.data.toList) o p) W):=
 spTwo_f fun w hb=>(SDyad_is _ (hW.sm.sc.below hb) hz (h1.below hb).v (h2.below hb).v h1.z h2.z h1.i h2.i).mono fun _ _ h=>aend_mend (dyA_is h1.i h2.i) h
theorem PTwo_f {s:ByteArray} {a1 b1 a2 b2:Option Addr} {n1 c1 m1 d1 n2 c2 m2 d2:Nat} {W:World} {f:Nat} {r:Option Ar×Int} (hz:s.size≤maxLen) (hW:SC W) (hf:s=⟨#[35]⟩∧f=72∨s=⟨#[94]⟩∧f=73∨s=⟨#[36]⟩∧f=74∨s=⟨#[44]⟩∧f=75∨s=⟨#[63]⟩∧f=76∨s=⟨#[64]⟩∧f=77) (hc:∀w,Below W.heap.size W w→Calls Tryz.prog f #[.agg #[.slice a1 n1 c1,.slice b1 m1 d1],.agg #[.slice a2 n2 c2,.slice b2 m2 d2]] w (MEnd r w)):
 Calls Tryz.prog 11 #[.string s,.agg #[.slice a1 n1 c1,.slice b1 m1 d1],.agg #[.slice a2 n2 c2,.slice b2 m2 d2]] W (MEnd r W):=by
 have h:=live2 W a1 n1 c1 b1 m1 d1 a2 n2 c2 b2 m2 d2
 have KM:=Lib.hid fun w (hb:Below W.heap.size W w)=>ofTwo_is s (hW.below hb)
 rcases hf with⟨rfl,rfl⟩|⟨rfl,rfl⟩|⟨rfl,rfl⟩|⟨rfl,rfl⟩|⟨rfl,rfl⟩|⟨rfl,rfl⟩
 all_goals
  have KC:=Lib.hid hc
  clear hW hc
  go_enter Tryz.func11,Tryz.ntmps11
  go_wp2_with fail
  refine(KM.out _ h.out.2.2.2).mono ?_
  rintro e w1 ⟨bm,rfl,hT,hq⟩
  have hl:=sq_look hT Tryz.underlying49 Tryz.underlying30 rfl hz rfl
  replace h:=live_to h hq
  clear hT hq KM
  have x1:=h.out.2.2.1.c0
  have y1:=h.out.2.2.1.c1
  have x2:=h.out.2.1.c0
  have y2:=h.out.2.1.c1
  go_wp2_with fail
  refine(KC.out _ h.out.2.2.2).mono ?_
  rintro e w2 ⟨ar,nr,cr,br,mr,dr,rfl,hv,hq⟩
  replace h:=live_to h hq
  have HV:=Lib.hid hv
  clear hv hq x1 y1 x2 y2
  have y0:=h.out.1.c0
  have y3:=h.out.1.c1
  have f0:=h.out.1.f 0
  have f1:=h.out.1.f 1
  go_wp2_with fail
  have hR:=h.out.1.set ar nr cr br mr dr
  have r0:=hR.c0
  have r1:=hR.c1
  exact bodyPost_ret (v:=.tuple #[.agg #[.slice ar nr cr,.slice br mr dr],.int .i64 r.2]) (by simp[results,Tryz.results11,go_sem,r0,r1]) rfl (mend_box (r:=r) h.out.1 h.out.2.2.2 (by omega) HV.out.v HV.out.c HV.out.i.rok)
theorem PTwo_g {s:ByteArray} {a1 b1 a2 b2:Option Addr} {n1 c1 m1 d1 n2 c2 m2 d2:Nat} {W:World} {r:Option Ar×Int} (hz:s.size≤maxLen) (hW:SC W) (hf:finK (MTwo s) s=[.func (.func 79) #[.string s] #[]]) (hc:∀w,Below W.heap.size W w→Calls Tryz.prog 79 #[.string s,.agg #[.slice a1 n1 c1,.slice b1 m1 d1],.agg #[.slice a2 n2 c2,.slice b2 m2 d2]] w (MEnd r w)):
 Calls Tryz.prog 11 #[.string s,.agg #[.slice a1 n1 c1,.slice b1 m1 d1],.agg #[.slice a2 n2 c2,.slice b2 m2 d2]] W (MEnd r W):=by
 have KM:=Lib.hid fun w (hb:Below W.heap.size W w)=>ofTwo_is s (hW.below hb)
 have KC:=Lib.hid hc
 have KF:=Lib.hid (And.intro hz hf)
 clear hW hc hf hz
 have h:=live2 W a1 n1 c1 b1 m1 d1 a2 n2 c2 b2 m2 d2
 go_enter Tryz.func11,Tryz.ntmps11
 go_wp2_with fail
 refine(KM.out _ h.out.2.2.2).mono ?_
 rintro e w1 ⟨bm,rfl,hT,hq⟩
 have hl:=sq_look hT Tryz.underlying49 Tryz.underlying30 rfl KF.out.1 KF.out.2
 replace h:=live_to h hq
 clear hT hq KM KF
 have x1:=h.out.2.2.1.c0
 have y1:=h.out.2.2.1.c1
 have x2:=h.out.2.1.c0
 have y2:=h.out.2.1.c1
 go_wp2_with fail
 refine(KC.out _ h.out.2.2.2).mono ?_
 rintro e w2 ⟨ar,nr,cr,br,mr,dr,rfl,hv,hq⟩
 replace h:=live_to h hq
 have HV:=Lib.hid hv
 clear hv hq x1 y1 x2 y2
 have y0:=h.out.1.c0
 have y3:=h.out.1.c1
 have f0:=h.out.1.f 0
 have f1:=h.out.1.f 1
 go_wp2_with fail
 have hR:=h.out.1.set ar nr cr br mr dr
 have r0:=hR.c0
 have r1:=hR.c1
 exact bodyPost_ret (v:=.tuple #[.agg #[.slice ar nr cr,.slice br mr dr],.int .i64 r.2]) (by simp[results,Tryz.results11,go_sem,r0,r1]) rfl (mend_box (r:=r) h.out.1 h.out.2.2.2 (by omega) HV.out.v HV.out.c HV.out.i.rok)
theorem PTwo_no {s:ByteArray} {a1 b1 a2 b2:Option Addr} {n1 c1 m1 d1 n2 c2 m2 d2:Nat} {W:World} (hz:s.size≤maxLen) (hW:SC W) (hf:finK (MTwo s) s=[]):Calls Tryz.prog 11 #[.string s,.agg #[.slice a1 n1 c1,.slice b1 m1 d1],.agg #[.slice a2 n2 c2,.slice b2 m2 d2]] W (MEnd (none,1) W):=by
 have KM:=Lib.hid fun w (hb:Below W.heap.size W w)=>ofTwo_is s (hW.below hb)
 have KF:=Lib.hid (And.intro hz hf)
 clear hW hf hz
 have h:=live2 W a1 n1 c1 b1 m1 d1 a2 n2 c2 b2 m2 d2
 go_enter Tryz.func11,Tryz.ntmps11
 go_wp2_with fail
 refine(KM.out _ h.out.2.2.2).mono ?_
 rintro e w1 ⟨bm,rfl,hT,hq⟩
 have hl:=sq_miss hT Tryz.underlying49 Tryz.underlying30 rfl KF.out.1 (zv:=.nilFunc) (by kernel_rfl) KF.out.2
 replace h:=live_to h hq
 clear hT hq KM KF
 have y0:=h.out.1.c0
 have y3:=h.out.1.c1
 have f0:=h.out.1.f 0
 have f1:=h.out.1.f 1
 go_wp2_with fail
 have hR:=h.out.1.set none 0 0 none 0 0
 have r0:=hR.c0
 have r1:=hR.c1
 exact bodyPost_ret (v:=.tuple #[.agg #[.slice none 0 0,.slice none 0 0],.int .i64 1]) (by simp[results,Tryz.results11,go_sem,r0,r1]) rfl (mend_no h.out.1 h.out.2.2.2 (by omega))
theorem PTwo_is {s:ByteArray} {a1 b1 a2 b2:Option Addr} {n1 c1 m1 d1 n2 c2 m2 d2:Nat} {W:World} {l m:List Int} {es fs:List ByteArray} {o p:Option Ar} (h1:Av W a1 n1 c1 b1 m1 d1 l es o) (h2:Av W a2 n2 c2 b2 m2 d2 m fs p) (hW:PW W) (hz:s.size≤maxLen):Calls Tryz.prog 11 #[.string s,.agg #[.slice a1 n1 c1,.slice b1 m1 d1],.agg #[.slice a2 n2 c2,.slice b2 m2 d2]] W (MEnd (twoP s.data.toList o p) W):=by
 by_cases e0:s.data.toList=[35]
 · obtain rfl:s=⟨#[35]⟩:=text_eq e0
   exact PTwo_f hz hW.sm.sc (f:=72) (by simp) fun w hb=>MReshape_is (h1.below hb) (h2.below hb) (hW.wt.below hb)
 by_cases e1:s.data.toList=[94]
 · obtain rfl:s=⟨#[94]⟩:=text_eq e1
   exact PTwo_f hz hW.sm.sc (f:=73) (by simp) fun w hb=>MTake_is (h1.below hb) (h2.below hb) (hW.wt.below hb)
 by_cases e2:s.data.toList=[36]
 · obtain rfl:s=⟨#[36]⟩:=text_eq e2
   exact PTwo_f hz hW.sm.sc (f:=74) (by simp) fun w hb=>MDrop_is (h1.below hb) (h2.below hb) (hW.wt.below hb)
 by_cases e3:s.data.toList=[44]
 · obtain rfl:s=⟨#[44]⟩:=text_eq e3
   exact PTwo_f hz hW.sm.sc (f:=75) (by simp) fun w hb=>MJoin_is (h1.below hb) (h2.below hb)
 by_cases e4:s.data.toList=[63]
 · obtain rfl:s=⟨#[63]⟩:=text_eq e4
   exact PTwo_f hz hW.sm.sc (f:=76) (by simp) fun w hb=>SFind_is (h1.below hb) (h2.below hb) (hW.wt.below hb)
 by_cases e5:s.data.toList=[64]
 · obtain rfl:s=⟨#[64]⟩:=text_eq e5
   exact PTwo_f hz hW.sm.sc (f:=77) (by simp) fun w hb=>SIndex_is (h1.below hb) (h2.below hb) (hW.wt.below hb)
 by_cases e6:s.data.toList=[43]
 · obtain rfl:s=⟨#[43]⟩:=text_eq e6
   exact PTwo_g hz hW.sm.sc rfl fun w hb=>spTwo_is (h1.below hb) (h2.below hb) (hW.below hb) hz
 by_cases e7:s.data.toList=[45]
 · obtain rfl:s=⟨#[45]⟩:=text_eq e7
   exact PTwo_g hz hW.sm.sc rfl fun w hb=>spTwo_is (h1.below hb) (h2.below hb) (hW.below hb) hz
 by_cases e8:s.data.toList=[42]
 · obtain rfl:s=⟨#[42]⟩:=text_eq e8
   exact PTwo_g hz hW.sm.sc rfl fun w hb=>spTwo_is (h1.below hb) (h2.below hb) (hW.below hb) hz
 by_cases e9:s.data.toList=[37]
 · obtain rfl:s=⟨#[37]⟩:=text_eq e9
   exact PTwo_g hz hW.sm.sc rfl fun w hb=>spTwo_is (h1.below hb) (h2.below hb) (hW.below hb) hz
 by_cases e10:s.data.toList=[33]
 · obtain rfl:s=⟨#[33]⟩:=text_eq e10
   exact PTwo_g hz hW.sm.sc rfl fun w hb=>spTwo_is (h1.below hb) (h2.below hb) (hW.below hb) hz
 by_cases e11:s.data.toList=[38]
 · obtain rfl:s=⟨#[38]⟩:=text_eq e11
   exact PTwo_g hz hW.sm.sc rfl fun w hb=>spTwo_is (h1.below hb) (h2.below hb) (hW.below hb) hz
 by_cases e12:s.data.toList=[124]
 · obtain rfl:s=⟨#[124]⟩:=text_eq e12
   exact PTwo_g hz hW.sm.sc rfl fun w hb=>spTwo_is (h1.below hb) (h2.below hb) (hW.below hb) hz
 by_cases e13:s.data.toList=[60]
 · obtain rfl:s=⟨#[60]⟩:=text_eq e13
   exact PTwo_g hz hW.sm.sc rfl fun w hb=>spTwo_is (h1.below hb) (h2.below hb) (hW.below hb) hz
 by_cases e14:s.data.toList=[62]
 · obtain rfl:s=⟨#[62]⟩:=text_eq e14
   exact PTwo_g hz hW.sm.sc rfl fun w hb=>spTwo_is (h1.below hb) (h2.below hb) (hW.below hb) hz
 by_cases e15:s.data.toList=[61]
 · obtain rfl:s=⟨#[61]⟩:=text_eq e15
   exact PTwo_g hz hW.sm.sc rfl fun w hb=>spTwo_is (h1.below hb) (h2.below hb) (hW.below hb) hz
 by_cases e16:s.data.toList=[126]
 · obtain rfl:s=⟨#[126]⟩:=text_eq e16
   exact PTwo_g hz hW.sm.sc rfl fun w hb=>spTwo_is (h1.below hb) (h2.below hb) (hW.below hb) hz
 rw[show twoP s.data.toList o p=(none,1)by simp[twoP,kdL,e0,e1,e2,e3,e4,e5,e6,e7,e8,e9,e10,e11,e12,e13,e14,e15,e16]]
 refine PTwo_no hz hW.sm.sc ?_
 simp only[finK,MTwo,LTwo,GTwo,List.map_cons,List.map_nil,List.cons_append,List.nil_append,List.filter_cons,List.filter_nil]
 simp[Ne.symm e0,Ne.symm e1,Ne.symm e2,Ne.symm e3,Ne.symm e4,Ne.symm e5,Ne.symm e6,Ne.symm e7,Ne.symm e8,Ne.symm e9,Ne.symm e10,Ne.symm e11,Ne.symm e12,Ne.symm e13,Ne.symm e14,Ne.symm e15,Ne.symm e16]
def UEnd (r:Option Ar) (W:World) (e:Ending) (W':World):Prop:=
 ∃a n c b m d,e=.returned (.tuple #[.agg #[.slice a n c,.slice b m d],.bool r.isSome])∧Av W' a n c b m d (TS r).1 (TS r).2 r∧Below W.heap.size W W'
theorem unB {l:List UInt8}:(decide (l=[43])||decide (l=[42]))=(unP l).isSome:=by
 unfold unP
 by_cases h:l=[43]
 · simp[h]
 · by_cases g:l=[42]
   · simp[g]
   · simp[h,g]
theorem unP_yes {l:List UInt8} (q:Ar) (h:unP l=some q):∃x:Int,q=([],[x])∧x.natAbs<2∧S x=(if l=[43]then⟨#[48]⟩else if l=[42]then⟨#[49]⟩else⟨#[]⟩):=by
 unfold unP at h
 split at h
 · rename_i e
   obtain rfl:=Option.some.inj h
   exact⟨0,rfl,by decide,by rw[if_pos e];exact S_0⟩
 · rename_i e
   split at h
   · rename_i e'
     obtain rfl:=Option.some.inj h
     exact⟨1,rfl,by decide,by rw[if_neg e,if_pos e'];exact S_1⟩
   · cases h
theorem PUnit_is (s:ByteArray) {W:World} (hW:SC W) (hz:s.size≤maxLen):Calls Tryz.prog 13 #[.string s] W (UEnd (unP s.data.toList) W):=by
 have hb0:Below W.heap.size W (W.alloc (.cells #[.slice none 0 0,.slice none 0 0] 25)):=(Below.refl _ _).alloc (Nat.le_refl _) _
 have h:Lv (fun w=>Bx w W.heap.size none 0 0 none 0 0∧Below W.heap.size W w) (W.alloc (.cells #[.slice none 0 0,.slice none 0 0] 25)):=⟨⟨Bx.new W _ _ _ _ _ _,hb0⟩⟩
 have KU:=un_ok hz _ (hW.below hb0)
 rw[unB]at KU
 have HY:=Lib.hid (fun q=>unP_yes (l:=s.data.toList) q)
 generalize unP s.data.toList=r at*
 generalize (if s.data.toList=[43]then(⟨#[48]⟩:ByteArray)else if s.data.toList=[42]then⟨#[49]⟩else⟨#[]⟩)=u at*
 replace KU:=Lib.hid KU
 clear hb0 hW hz
 cases r with
 |none=>
  go_enter Tryz.func13,Tryz.ntmps13
  go_wp2_with fail
  with_reducible refine(live h KU.out).mono ?_
  clear h KU
  rintro e w ⟨rfl,h⟩
  have y0:=h.out.1.c0
  have y3:=h.out.1.c1
  have f0:=h.out.1.f 0
  have f1:=h.out.1.f 1
  go_wp2_with fail
  have hR:=h.out.1.set none 0 0 none 0 0
  have r0:=hR.c0
  have r1:=hR.c1
  exact bodyPost_ret (v:=.tuple #[.agg #[.slice none 0 0,.slice none 0 0],.bool false]) (by simp[results,Tryz.results13,go_sem,r0,r1]) rfl
   ⟨none,0,0,none,0,0,rfl,⟨Vl.none_ _,cp0,fun j hj=>absurd hj (Nat.not_lt_zero _),ais_none⟩,below_made h.out.2 (Nat.le_refl _) _ _⟩
 |some q=>
  obtain⟨x,rfl,hx,hS⟩:=HY.out _ rfl
  subst hS
  have HX:Hid (Rok (some ([],[x]))):=Lib.hid ⟨(by decide:szE []=0),(rfl:((1:Nat):Int)=pr []),fun z hz=>by
   rw[List.mem_singleton]at hz
   rw[hz]
   exact Nat.lt_of_lt_of_le hx (Nat.le_trans (by decide) lim_big)⟩
  clear hx HY
  generalize hy:S x=y at*
  have HS:=Lib.hid hy
  clear hy
  go_enter Tryz.func13,Tryz.ntmps13
  go_wp2_with fail
  with_reducible refine(live h KU.out).mono ?_
  clear h KU
  rintro e w ⟨rfl,h⟩
  have hA:Below w.heap.size w (w.alloc (.cells #[.string y] 9)):=(Below.refl _ _).alloc (Nat.le_refl _) _
  have hc:=cell_of_row _ _ 0 _ _ _ (heap_alloc_new w (.cells #[.string y] 9))
  replace h:=live_to h hA
  have HC:=Lib.hid hc
  clear hc hA
  have y0:=h.out.1.c0
  have y3:=h.out.1.c1
  have f0:=h.out.1.f 0
  have f1:=h.out.1.f 1
  go_wp2_with fail
  have hR:=h.out.1.set none 0 0 (some ⟨w.heap.size,0,none⟩) 1 1
  have r0:=hR.c0
  have r1:=hR.c1
  have hV:=Vl.one HC.out
  exact bodyPost_ret (v:=.tuple #[.agg #[.slice none 0 0,.slice (some ⟨w.heap.size,0,none⟩) 1 1],.bool true]) (by simp[results,Tryz.results13,go_sem,r0,r1]) rfl
   ⟨none,0,0,some ⟨w.heap.size,0,none⟩,1,1,rfl,⟨⟨h.out.1.sl hV.s _ _,by show St _ _ _ [S x];rw[HS.out];exact h.out.1.st hV.t _ _,hV.mm⟩,⟨Nat.le_refl _,by unfold maxLen;omega,Nat.le_refl _,by unfold maxLen;omega⟩,HX.out.sz rfl,HX.out.ais⟩,below_made h.out.2 (Nat.le_refl _) _ _⟩
end Go.Proofs.YtcfbjdplhgdpfaaGreatDoor
namespace Go.Proofs.YtcfbjdplhgdpfaaGreatDoor
set_option linter.unusedVariables false
set_option linter.unusedSimpArgs false
open Go.RowKit
theorem lw_on {P:World→Prop} {w w':World} (h:Lv P w) (hb:Below w.heap.size w w')
 (hs:Stb P:=by repeat' (first|exact Stb.bel _|exact Stb.bx|exact Av.stb2|refine Stb.and ?_ ?_|exact Stb.triv)):Lv P w':=⟨hs _ _ h.out hb⟩
theorem Av.ntt {W:World} {a b:Option Addr} {n c m d:Nat} {o:Option Ar} (h:Av W a n c b m d (TS o).1 (TS o).2 o):n≤1000000:=by
 cases o with
 |none=>have:=h.v.s.1;simp[TS]at this;omega
 |some q=>have:=h.n3;omega
theorem lw_two {a1 b1 a2 b2:Option Addr} {n1 c1 m1 d1 n2 c2 m2 d2:Nat} {l1 l2:List Int} {es1 es2:List ByteArray} {o1 o2:Option Ar} (W:World) (h1:Av W a1 n1 c1 b1 m1 d1 l1 es1 o1) (h2:Av W a2 n2 c2 b2 m2 d2 l2 es2 o2):
 Lv (fun w=>Bx w (W.heap.size+1) a2 n2 c2 b2 m2 d2∧Av w a2 n2 c2 b2 m2 d2 l2 es2 o2∧Bx w W.heap.size a1 n1 c1 b1 m1 d1∧Av w a1 n1 c1 b1 m1 d1 l1 es1 o1∧Below W.heap.size W w)
  ((W.alloc (.cells #[.slice a1 n1 c1,.slice b1 m1 d1] 25)).alloc (.cells #[.slice a2 n2 c2,.slice b2 m2 d2] 25)):=by
 have k2:=lw_box (lw_one W h1) (h2.on ((Below.refl _ _).alloc (Nat.le_refl _) (.cells #[.slice a1 n1 c1,.slice b1 m1 d1] 25)))
 simp only[World.size_alloc]at k2
 exact k2
end Go.Proofs.YtcfbjdplhgdpfaaGreatDoor

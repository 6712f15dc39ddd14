import Derived.Test.YtbijncndjlmmdaaGreatDoorMak
import Derived.Test.YtbijncndjlmmdaaGreatDoorMay
import Derived.Test.YtbijncndjlmmdaaGreatDoorMbe
import Derived.Test.YtbijncndjlmmdaaGreatDoorMbf
import Derived.Test.YtbijncndjlmmdaaGreatDoorMax
import Derived.Test.YtbijncndjlmmdaaGreatDoorMat
import Derived.Test.YtbijncndjlmmdaaGreatDoorRows
import Derived.Test.YtbijncndjlmmdaaGreatDoorMaf
import Derived.ProofKit
import Derived.LaidMore
import Derived.OpenShut
import Derived.Stop.LaidErr
import Derived.Stop.Joined
import Derived.Test.YtbijncndjlmmdaaGreatDoorMap
import Derived.Test.YtbijncndjlmmdaaGreatDoorMao
import Derived.Lib.SmallJoins
import Derived.SliceStrings
import Derived.Carry
set_option maxHeartbeats 3200000
set_option maxRecDepth 100000
namespace Go.Proofs.YtbijncndjlmmdaaGreatDoor
set_option linter.unusedVariables false
set_option linter.unusedSimpArgs false
open Go.RowKit Go.Maps Go.MapKept Go.WideMaps
structure PW (W:World):Prop where
 sm:SM W
 wt:WT W
theorem PW.below {w w':World} (h:PW w) (hb:Below w.heap.size w w'):PW w':=⟨h.sm.below hb,h.wt.below hb⟩
theorem aend_mend {r:Option Ar×Int} {W w:World} {e:Ending} (ha:AIs (TS r.1).1 (TS r.1).2 r.1) (h:AEnd (TS r.1).1 (TS r.1).2 r.2 W e w):MEnd r W e w:=by
 obtain⟨a,n,c,b,m,d,rfl,hv,hc,hb⟩:=h
 exact⟨a,n,c,b,m,d,rfl,⟨hv,hc,ts_sz ha hv.t.1.symm,ha⟩,hb⟩
theorem spOne_f {s:ByteArray} {a1 b1:Option Addr} {n1 c1 m1 d1:Nat} {W:World} {r:Option Ar×Int} (hc:∀w,Below W.heap.size W w→Calls Tryz.prog 162 #[.string s,.agg #[.slice a1 n1 c1,.slice b1 m1 d1]] w (MEnd r w)):
 Calls Tryz.prog 120 #[.string s,.agg #[.slice a1 n1 c1,.slice b1 m1 d1]] W (MEnd r W):=by
 have KC:=Lib.hid hc
 clear hc
 have h:=live1 W a1 n1 c1 b1 m1 d1
 go_enter Tryz.func120,Tryz.ntmps120
 have x1:=h.out.2.1.c0
 have y1:=h.out.2.1.c1
 go_wp2_with fail
 refine(KC.out _ h.out.2.2).mono ?_
 rintro e w2 ⟨ar,nr,cr,br,mr,dr,rfl,hv,hq⟩
 replace h:=live_to h hq
 have HV:=Lib.hid hv
 clear hv hq x1 y1
 have y0:=h.out.1.c0
 have y3:=h.out.1.c1
 have f0:=h.out.1.f 0
 have f1:=h.out.1.f 1
 go_wp2_with fail
 have hR:=h.out.1.set ar nr cr br mr dr
 have r0:=hR.c0
 have r1:=hR.c1
 exact bodyPost_ret (v:=.tuple #[.agg #[.slice ar nr cr,.slice br mr dr],.int .i64 r.2]) (by simp[results,Tryz.results120,go_sem,r0,r1]) rfl (mend_box (r:=r) h.out.1 h.out.2.2 (by omega) HV.out.v HV.out.c HV.out.i.rok)
theorem spOne_is {s:ByteArray} {a1 b1:Option Addr} {n1 c1 m1 d1:Nat} {W:World} {l:List Int} {es:List ByteArray} {o:Option Ar} (h1:Av W a1 n1 c1 b1 m1 d1 l es o) (hW:PW W) (hz:s.size≤maxLen):Calls Tryz.prog 120 #[.string s,.agg #[.slice a1 n1 c1,.slice b1 m1 d1]] W (MEnd (mnA (kmL s.data.toList) o) W):=
 spOne_f fun w hb=>(SMonad_is _ (hW.sm.below hb) hz (h1.below hb).v h1.z h1.i).mono fun _ _ h=>aend_mend (mnA_is h1.i) h
theorem POne_f {s:ByteArray} {a1 b1:Option Addr} {n1 c1 m1 d1:Nat} {W:World} {f:Nat} {r:Option Ar×Int} (hz:s.size≤maxLen) (hW:SM W) (hf:s=⟨#[33]⟩∧f=109∨s=⟨#[35]⟩∧f=110∨s=⟨#[61]⟩∧f=111∨s=⟨#[44]⟩∧f=112∨s=⟨#[124]⟩∧f=113∨s=⟨#[43]⟩∧f=114∨s=⟨#[60]⟩∧f=115∨s=⟨#[62]⟩∧f=116∨s=⟨#[38]⟩∧f=117∨s=⟨#[63]⟩∧f=118) (hc:∀w,Below W.heap.size W w→Calls Tryz.prog f #[.agg #[.slice a1 n1 c1,.slice b1 m1 d1]] w (MEnd r w)):
 Calls Tryz.prog 26 #[.string s,.agg #[.slice a1 n1 c1,.slice b1 m1 d1]] W (MEnd r W):=by
 have h:=live1 W a1 n1 c1 b1 m1 d1
 have KM:=Lib.hid fun w (hb:Below W.heap.size W w)=>ofOne_is s (hW.below hb)
 rcases hf with⟨rfl,rfl⟩|⟨rfl,rfl⟩|⟨rfl,rfl⟩|⟨rfl,rfl⟩|⟨rfl,rfl⟩|⟨rfl,rfl⟩|⟨rfl,rfl⟩|⟨rfl,rfl⟩|⟨rfl,rfl⟩|⟨rfl,rfl⟩
 all_goals
  have KC:=Lib.hid hc
  clear hW hc
  go_enter Tryz.func26,Tryz.ntmps26
  go_wp2_with fail
  refine(KM.out _ h.out.2.2).mono ?_
  rintro e w1 ⟨bm,rfl,hT,hq⟩
  have hl:=sq_look hT Tryz.underlying81 Tryz.underlying31 rfl hz rfl
  replace h:=live_to h hq
  clear hT hq KM
  have x1:=h.out.2.1.c0
  have y1:=h.out.2.1.c1
  go_wp2_with fail
  refine(KC.out _ h.out.2.2).mono ?_
  rintro e w2 ⟨ar,nr,cr,br,mr,dr,rfl,hv,hq⟩
  replace h:=live_to h hq
  have HV:=Lib.hid hv
  clear hv hq x1 y1
  have y0:=h.out.1.c0
  have y3:=h.out.1.c1
  have f0:=h.out.1.f 0
  have f1:=h.out.1.f 1
  go_wp2_with fail
  have hR:=h.out.1.set ar nr cr br mr dr
  have r0:=hR.c0
  have r1:=hR.c1
  exact bodyPost_ret (v:=.tuple #[.agg #[.slice ar nr cr,.slice br mr dr],.int .i64 r.2]) (by simp[results,Tryz.results26,go_sem,r0,r1]) rfl (mend_box (r:=r) h.out.1 h.out.2.2 (by omega) HV.out.v HV.out.c HV.out.i.rok)
theorem POne_g {s:ByteArray} {a1 b1:Option Addr} {n1 c1 m1 d1:Nat} {W:World} {r:Option Ar×Int} (hz:s.size≤maxLen) (hW:SM W) (hf:finK (MOne s) s=[.func (.func 120) #[.string s] #[]]) (hc:∀w,Below W.heap.size W w→Calls Tryz.prog 120 #[.string s,.agg #[.slice a1 n1 c1,.slice b1 m1 d1]] w (MEnd r w)):
 Calls Tryz.prog 26 #[.string s,.agg #[.slice a1 n1 c1,.slice b1 m1 d1]] W (MEnd r W):=by
 have KM:=Lib.hid fun w (hb:Below W.heap.size W w)=>ofOne_is s (hW.below hb)
 have KC:=Lib.hid hc
 have KF:=Lib.hid (And.intro hz hf)
 clear hW hc hf hz
 have h:=live1 W a1 n1 c1 b1 m1 d1
 go_enter Tryz.func26,Tryz.ntmps26
 go_wp2_with fail
 refine(KM.out _ h.out.2.2).mono ?_
 rintro e w1 ⟨bm,rfl,hT,hq⟩
 have hl:=sq_look hT Tryz.underlying81 Tryz.underlying31 rfl KF.out.1 KF.out.2
 replace h:=live_to h hq
 clear hT hq KM KF
 have x1:=h.out.2.1.c0
 have y1:=h.out.2.1.c1
 go_wp2_with fail
 refine(KC.out _ h.out.2.2).mono ?_
 rintro e w2 ⟨ar,nr,cr,br,mr,dr,rfl,hv,hq⟩
 replace h:=live_to h hq
 have HV:=Lib.hid hv
 clear hv hq x1 y1
 have y0:=h.out.1.c0
 have y3:=h.out.1.c1
 have f0:=h.out.1.f 0
 have f1:=h.out.1.f 1
 go_wp2_with fail
 have hR:=h.out.1.set ar nr cr br mr dr
 have r0:=hR.c0
 have r1:=hR.c1
 exact bodyPost_ret (v:=.tuple #[.agg #[.slice ar nr cr,.slice br mr dr],.int .i64 r.2]) (by simp[results,Tryz.results26,go_sem,r0,r1]) rfl (mend_box (r:=r) h.out.1 h.out.2.2 (by omega) HV.out.v HV.out.c HV.out.i.rok)
theorem POne_no {s:ByteArray} {a1 b1:Option Addr} {n1 c1 m1 d1:Nat} {W:World} (hz:s.size≤maxLen) (hW:SM W) (hf:finK (MOne s) s=[]):Calls Tryz.prog 26 #[.string s,.agg #[.slice a1 n1 c1,.slice b1 m1 d1]] W (MEnd (none,1) W):=by
 have KM:=Lib.hid fun w (hb:Below W.heap.size W w)=>ofOne_is s (hW.below hb)
 have KF:=Lib.hid (And.intro hz hf)
 clear hW hf hz
 have h:=live1 W a1 n1 c1 b1 m1 d1
 go_enter Tryz.func26,Tryz.ntmps26
 go_wp2_with fail
 refine(KM.out _ h.out.2.2).mono ?_
 rintro e w1 ⟨bm,rfl,hT,hq⟩
 have hl:=sq_miss hT Tryz.underlying81 Tryz.underlying31 rfl KF.out.1 (zv:=.nilFunc) (by kernel_rfl) KF.out.2
 replace h:=live_to h hq
 clear hT hq KM KF
 have y0:=h.out.1.c0
 have y3:=h.out.1.c1
 have f0:=h.out.1.f 0
 have f1:=h.out.1.f 1
 go_wp2_with fail
 have hR:=h.out.1.set none 0 0 none 0 0
 have r0:=hR.c0
 have r1:=hR.c1
 exact bodyPost_ret (v:=.tuple #[.agg #[.slice none 0 0,.slice none 0 0],.int .i64 1]) (by simp[results,Tryz.results26,go_sem,r0,r1]) rfl (mend_no h.out.1 h.out.2.2 (by omega))
theorem POne_is {s:ByteArray} {a1 b1:Option Addr} {n1 c1 m1 d1:Nat} {W:World} {l:List Int} {es:List ByteArray} {o:Option Ar} (h1:Av W a1 n1 c1 b1 m1 d1 l es o) (hW:PW W) (hz:s.size≤maxLen):Calls Tryz.prog 26 #[.string s,.agg #[.slice a1 n1 c1,.slice b1 m1 d1]] W (MEnd (oneP s.data.toList o) W):=by
 by_cases e0:s.data.toList=[33]
 · obtain rfl:s=⟨#[33]⟩:=text_eq e0
   exact POne_f hz hW.sm (f:=109) (by simp) fun w hb=>MIota_is (h1.below hb) (hW.wt.below hb)
 by_cases e1:s.data.toList=[35]
 · obtain rfl:s=⟨#[35]⟩:=text_eq e1
   exact POne_f hz hW.sm (f:=110) (by simp) fun w hb=>MTally_is (h1.below hb) (hW.wt.below hb)
 by_cases e2:s.data.toList=[61]
 · obtain rfl:s=⟨#[61]⟩:=text_eq e2
   exact POne_f hz hW.sm (f:=111) (by simp) fun w hb=>MShape_is (h1.below hb) (hW.wt.below hb)
 by_cases e3:s.data.toList=[44]
 · obtain rfl:s=⟨#[44]⟩:=text_eq e3
   exact POne_f hz hW.sm (f:=112) (by simp) fun w hb=>MRavel_is (h1.below hb)
 by_cases e4:s.data.toList=[124]
 · obtain rfl:s=⟨#[124]⟩:=text_eq e4
   exact POne_f hz hW.sm (f:=113) (by simp) fun w hb=>MReverse_is (h1.below hb)
 by_cases e5:s.data.toList=[43]
 · obtain rfl:s=⟨#[43]⟩:=text_eq e5
   exact POne_f hz hW.sm (f:=114) (by simp) fun w hb=>MFlip_is (h1.below hb)
 by_cases e6:s.data.toList=[60]
 · obtain rfl:s=⟨#[60]⟩:=text_eq e6
   exact POne_f hz hW.sm (f:=115) (by simp) fun w hb=>SUp_is (h1.below hb) (hW.wt.below hb)
 by_cases e7:s.data.toList=[62]
 · obtain rfl:s=⟨#[62]⟩:=text_eq e7
   exact POne_f hz hW.sm (f:=116) (by simp) fun w hb=>SDown_is (h1.below hb) (hW.wt.below hb)
 by_cases e8:s.data.toList=[38]
 · obtain rfl:s=⟨#[38]⟩:=text_eq e8
   exact POne_f hz hW.sm (f:=117) (by simp) fun w hb=>SWhere_is (h1.below hb) (hW.wt.below hb)
 by_cases e9:s.data.toList=[63]
 · obtain rfl:s=⟨#[63]⟩:=text_eq e9
   exact POne_f hz hW.sm (f:=118) (by simp) fun w hb=>SUnique_is (h1.below hb) (hW.wt.below hb)
 by_cases e10:s.data.toList=[45]
 · obtain rfl:s=⟨#[45]⟩:=text_eq e10
   exact POne_g hz hW.sm rfl fun w hb=>spOne_is (h1.below hb) (hW.below hb) hz
 by_cases e11:s.data.toList=[126]
 · obtain rfl:s=⟨#[126]⟩:=text_eq e11
   exact POne_g hz hW.sm rfl fun w hb=>spOne_is (h1.below hb) (hW.below hb) hz
 by_cases e12:s.data.toList=[42]
 · obtain rfl:s=⟨#[42]⟩:=text_eq e12
   exact POne_g hz hW.sm rfl fun w hb=>spOne_is (h1.below hb) (hW.below hb) hz
 rw[show oneP s.data.toList o=(none,1)by simp[oneP,kmL,e0,e1,e2,e3,e4,e5,e6,e7,e8,e9,e10,e11,e12]]
 refine POne_no hz hW.sm ?_
 simp only[finK,MOne,LOne,GOne,List.map_cons,List.map_nil,List.cons_append,List.nil_append,List.filter_cons,List.filter_nil]
 simp[Ne.symm e0,Ne.symm e1,Ne.symm e2,Ne.symm e3,Ne.symm e4,Ne.symm e5,Ne.symm e6,Ne.symm e7,Ne.symm e8,Ne.symm e9,Ne.symm e10,Ne.symm e11,Ne.symm e12]
theorem spTwo_f {s:ByteArray} {a1 b1 a2 b2:Option Addr} {n1 c1 m1 d1 n2 c2 m2 d2:Nat} {W:World} {r:Option Ar×Int} (hc:∀w,Below W.heap.size W w→Calls Tryz.prog 153 #[.string s,.agg #[.slice a1 n1 c1,.slice b1 m1 d1],.agg #[.slice a2 n2 c2,.slice b2 m2 d2]] w (MEnd r w)):
 Calls Tryz.prog 108 #[.string s,.agg #[.slice a1 n1 c1,.slice b1 m1 d1],.agg #[.slice a2 n2 c2,.slice b2 m2 d2]] W (MEnd r W):=by
 have KC:=Lib.hid hc
 clear hc
 have h:=live2 W a1 n1 c1 b1 m1 d1 a2 n2 c2 b2 m2 d2
 go_enter Tryz.func108,Tryz.ntmps108
 have x1:=h.out.2.2.1.c0
 have y1:=h.out.2.2.1.c1
 have x2:=h.out.2.1.c0
 have y2:=h.out.2.1.c1
 go_wp2_with fail
 refine(KC.out _ h.out.2.2.2).mono ?_
 rintro e w2 ⟨ar,nr,cr,br,mr,dr,rfl,hv,hq⟩
 replace h:=live_to h hq
 have HV:=Lib.hid hv
 clear hv hq x1 y1 x2 y2
 have y0:=h.out.1.c0
 have y3:=h.out.1.c1
 have f0:=h.out.1.f 0
 have f1:=h.out.1.f 1
 go_wp2_with fail
 have hR:=h.out.1.set ar nr cr br mr dr
 have r0:=hR.c0
 have r1:=hR.c1
 exact bodyPost_ret (v:=.tuple #[.agg #[.slice ar nr cr,.slice br mr dr],.int .i64 r.2]) (by simp[results,Tryz.results108,go_sem,r0,r1]) rfl (mend_box (r:=r) h.out.1 h.out.2.2.2 (by omega) HV.out.v HV.out.c HV.out.i.rok)
theorem spTwo_is {s:ByteArray} {a1 b1 a2 b2:Option Addr} {n1 c1 m1 d1 n2 c2 m2 d2:Nat} {W:World} {l m:List Int} {es fs:List ByteArray} {o p:Option Ar} (h1:Av W a1 n1 c1 b1 m1 d1 l es o) (h2:Av W a2 n2 c2 b2 m2 d2 m fs p) (hW:PW W) (hz:s.size≤maxLen):Calls Tryz.prog 108 #[.string s,.agg #[.slice a1 n1 c1,.slice b1 m1 d1],.agg #[.slice a2 n2 c2,.slice b2 m2 d2]] W (MEnd (dyA (kdL s.data.toList) o p) W):=
 spTwo_f fun w hb=>(SDyad_is _ (hW.sm.sc.below hb) hz (h1.below hb).v (h2.below hb).v h1.z h2.z h1.i h2.i).mono fun _ _ h=>aend_mend (dyA_is h1.i h2.i) h
theorem PTwo_f {s:ByteArray} {a1 b1 a2 b2:Option Addr} {n1 c1 m1 d1 n2 c2 m2 d2:Nat} {W:World} {f:Nat} {r:Option Ar×Int} (hz:s.size≤maxLen) (hW:SC W) (hf:s=⟨#[35]⟩∧f=101∨s=⟨#[94]⟩∧f=102∨s=⟨#[36]⟩∧f=103∨s=⟨#[44]⟩∧f=104∨s=⟨#[63]⟩∧f=105∨s=⟨#[64]⟩∧f=106) (hc:∀w,Below W.heap.size W w→Calls Tryz.prog f #[.agg #[.slice a1 n1 c1,.slice b1 m1 d1],.agg #[.slice a2 n2 c2,.slice b2 m2 d2]] w (MEnd r w)):
 Calls Tryz.prog 25 #[.string s,.agg #[.slice a1 n1 c1,.slice b1 m1 d1],.agg #[.slice a2 n2 c2,.slice b2 m2 d2]] W (MEnd r W):=by
 have h:=live2 W a1 n1 c1 b1 m1 d1 a2 n2 c2 b2 m2 d2
 have KM:=Lib.hid fun w (hb:Below W.heap.size W w)=>ofTwo_is s (hW.below hb)
 rcases hf with⟨rfl,rfl⟩|⟨rfl,rfl⟩|⟨rfl,rfl⟩|⟨rfl,rfl⟩|⟨rfl,rfl⟩|⟨rfl,rfl⟩
 all_goals
  have KC:=Lib.hid hc
  clear hW hc
  go_enter Tryz.func25,Tryz.ntmps25
  go_wp2_with fail
  refine(KM.out _ h.out.2.2.2).mono ?_
  rintro e w1 ⟨bm,rfl,hT,hq⟩
  have hl:=sq_look hT Tryz.underlying78 Tryz.underlying31 rfl hz rfl
  replace h:=live_to h hq
  clear hT hq KM
  have x1:=h.out.2.2.1.c0
  have y1:=h.out.2.2.1.c1
  have x2:=h.out.2.1.c0
  have y2:=h.out.2.1.c1
  go_wp2_with fail
  refine(KC.out _ h.out.2.2.2).mono ?_
  rintro e w2 ⟨ar,nr,cr,br,mr,dr,rfl,hv,hq⟩
  replace h:=live_to h hq
  have HV:=Lib.hid hv
  clear hv hq x1 y1 x2 y2
  have y0:=h.out.1.c0
  have y3:=h.out.1.c1
  have f0:=h.out.1.f 0
  have f1:=h.out.1.f 1
  go_wp2_with fail
  have hR:=h.out.1.set ar nr cr br mr dr
  have r0:=hR.c0
  have r1:=hR.c1
  exact bodyPost_ret (v:=.tuple #[.agg #[.slice ar nr cr,.slice br mr dr],.int .i64 r.2]) (by simp[results,Tryz.results25,go_sem,r0,r1]) rfl (mend_box (r:=r) h.out.1 h.out.2.2.2 (by omega) HV.out.v HV.out.c HV.out.i.rok)
theorem PTwo_g {s:ByteArray} {a1 b1 a2 b2:Option Addr} {n1 c1 m1 d1 n2 c2 m2 d2:Nat} {W:World} {r:Option Ar×Int} (hz:s.size≤maxLen) (hW:SC W) (hf:finK (MTwo s) s=[.func (.func 108) #[.string s] #[]]) (hc:∀w,Below W.heap.size W w→Calls Tryz.prog 108 #[.string s,.agg #[.slice a1 n1 c1,.slice b1 m1 d1],.agg #[.slice a2 n2 c2,.slice b2 m2 d2]] w (MEnd r w)):
 Calls Tryz.prog 25 #[.string s,.agg #[.slice a1 n1 c1,.slice b1 m1 d1],.agg #[.slice a2 n2 c2,.slice b2 m2 d2]] W (MEnd r W):=by
 have KM:=Lib.hid fun w (hb:Below W.heap.size W w)=>ofTwo_is s (hW.below hb)
 have KC:=Lib.hid hc
 have KF:=Lib.hid (And.intro hz hf)
 clear hW hc hf hz
 have h:=live2 W a1 n1 c1 b1 m1 d1 a2 n2 c2 b2 m2 d2
 go_enter Tryz.func25,Tryz.ntmps25
 go_wp2_with fail
 refine(KM.out _ h.out.2.2.2).mono ?_
 rintro e w1 ⟨bm,rfl,hT,hq⟩
 have hl:=sq_look hT Tryz.underlying78 Tryz.underlying31 rfl KF.out.1 KF.out.2
 replace h:=live_to h hq
 clear hT hq KM KF
 have x1:=h.out.2.2.1.c0
 have y1:=h.out.2.2.1.c1
 have x2:=h.out.2.1.c0
 have y2:=h.out.2.1.c1
 go_wp2_with fail
 refine(KC.out _ h.out.2.2.2).mono ?_
 rintro e w2 ⟨ar,nr,cr,br,mr,dr,rfl,hv,hq⟩
 replace h:=live_to h hq
 have HV:=Lib.hid hv
 clear hv hq x1 y1 x2 y2
 have y0:=h.out.1.c0
 have y3:=h.out.1.c1
 have f0:=h.out.1.f 0
 have f1:=h.out.1.f 1
 go_wp2_with fail
 have hR:=h.out.1.set ar nr cr br mr dr
 have r0:=hR.c0
 have r1:=hR.c1
 exact bodyPost_ret (v:=.tuple #[.agg #[.slice ar nr cr,.slice br mr dr],.int .i64 r.2]) (by simp[results,Tryz.results25,go_sem,r0,r1]) rfl (mend_box (r:=r) h.out.1 h.out.2.2.2 (by omega) HV.out.v HV.out.c HV.out.i.rok)
theorem PTwo_no {s:ByteArray} {a1 b1 a2 b2:Option Addr} {n1 c1 m1 d1 n2 c2 m2 d2:Nat} {W:World} (hz:s.size≤maxLen) (hW:SC W) (hf:finK (MTwo s) s=[]):Calls Tryz.prog 25 #[.string s,.agg #[.slice a1 n1 c1,.slice b1 m1 d1],.agg #[.slice a2 n2 c2,.slice b2 m2 d2]] W (MEnd (none,1) W):=by
 have KM:=Lib.hid fun w (hb:Below W.heap.size W w)=>ofTwo_is s (hW.below hb)
 have KF:=Lib.hid (And.intro hz hf)
 clear hW hf hz
 have h:=live2 W a1 n1 c1 b1 m1 d1 a2 n2 c2 b2 m2 d2
 go_enter Tryz.func25,Tryz.ntmps25
 go_wp2_with fail
 refine(KM.out _ h.out.2.2.2).mono ?_
 rintro e w1 ⟨bm,rfl,hT,hq⟩
 have hl:=sq_miss hT Tryz.underlying78 Tryz.underlying31 rfl KF.out.1 (zv:=.nilFunc) (by kernel_rfl) KF.out.2
 replace h:=live_to h hq
 clear hT hq KM KF
 have y0:=h.out.1.c0
 have y3:=h.out.1.c1
 have f0:=h.out.1.f 0
 have f1:=h.out.1.f 1
 go_wp2_with fail
 have hR:=h.out.1.set none 0 0 none 0 0
 have r0:=hR.c0
 have r1:=hR.c1
 exact bodyPost_ret (v:=.tuple #[.agg #[.slice none 0 0,.slice none 0 0],.int .i64 1]) (by simp[results,Tryz.results25,go_sem,r0,r1]) rfl (mend_no h.out.1 h.out.2.2.2 (by omega))
theorem PTwo_is {s:ByteArray} {a1 b1 a2 b2:Option Addr} {n1 c1 m1 d1 n2 c2 m2 d2:Nat} {W:World} {l m:List Int} {es fs:List ByteArray} {o p:Option Ar} (h1:Av W a1 n1 c1 b1 m1 d1 l es o) (h2:Av W a2 n2 c2 b2 m2 d2 m fs p) (hW:PW W) (hz:s.size≤maxLen):Calls Tryz.prog 25 #[.string s,.agg #[.slice a1 n1 c1,.slice b1 m1 d1],.agg #[.slice a2 n2 c2,.slice b2 m2 d2]] W (MEnd (twoP s.data.toList o p) W):=by
 by_cases e0:s.data.toList=[35]
 · obtain rfl:s=⟨#[35]⟩:=text_eq e0
   exact PTwo_f hz hW.sm.sc (f:=101) (by simp) fun w hb=>MReshape_is (h1.below hb) (h2.below hb) (hW.wt.below hb)
 by_cases e1:s.data.toList=[94]
 · obtain rfl:s=⟨#[94]⟩:=text_eq e1
   exact PTwo_f hz hW.sm.sc (f:=102) (by simp) fun w hb=>MTake_is (h1.below hb) (h2.below hb) (hW.wt.below hb)
 by_cases e2:s.data.toList=[36]
 · obtain rfl:s=⟨#[36]⟩:=text_eq e2
   exact PTwo_f hz hW.sm.sc (f:=103) (by simp) fun w hb=>MDrop_is (h1.below hb) (h2.below hb) (hW.wt.below hb)
 by_cases e3:s.data.toList=[44]
 · obtain rfl:s=⟨#[44]⟩:=text_eq e3
   exact PTwo_f hz hW.sm.sc (f:=104) (by simp) fun w hb=>MJoin_is (h1.below hb) (h2.below hb)
 by_cases e4:s.data.toList=[63]
 · obtain rfl:s=⟨#[63]⟩:=text_eq e4
   exact PTwo_f hz hW.sm.sc (f:=105) (by simp) fun w hb=>SFind_is (h1.below hb) (h2.below hb) (hW.wt.below hb)
 by_cases e5:s.data.toList=[64]
 · obtain rfl:s=⟨#[64]⟩:=text_eq e5
   exact PTwo_f hz hW.sm.sc (f:=106) (by simp) fun w hb=>SIndex_is (h1.below hb) (h2.below hb) (hW.wt.below hb)
 by_cases e6:s.data.toList=[43]
 · obtain rfl:s=⟨#[43]⟩:=text_eq e6
   exact PTwo_g hz hW.sm.sc rfl fun w hb=>spTwo_is (h1.below hb) (h2.below hb) (hW.below hb) hz
 by_cases e7:s.data.toList=[45]
 · obtain rfl:s=⟨#[45]⟩:=text_eq e7
   exact PTwo_g hz hW.sm.sc rfl fun w hb=>spTwo_is (h1.below hb) (h2.below hb) (hW.below hb) hz
 by_cases e8:s.data.toList=[42]
 · obtain rfl:s=⟨#[42]⟩:=text_eq e8
   exact PTwo_g hz hW.sm.sc rfl fun w hb=>spTwo_is (h1.below hb) (h2.below hb) (hW.below hb) hz
 by_cases e9:s.data.toList=[37]
 · obtain rfl:s=⟨#[37]⟩:=text_eq e9
   exact PTwo_g hz hW.sm.sc rfl fun w hb=>spTwo_is (h1.below hb) (h2.below hb) (hW.below hb) hz
 by_cases e10:s.data.toList=[33]
 · obtain rfl:s=⟨#[33]⟩:=text_eq e10
   exact PTwo_g hz hW.sm.sc rfl fun w hb=>spTwo_is (h1.below hb) (h2.below hb) (hW.below hb) hz
 by_cases e11:s.data.toList=[38]
 · obtain rfl:s=⟨#[38]⟩:=text_eq e11
   exact PTwo_g hz hW.sm.sc rfl fun w hb=>spTwo_is (h1.below hb) (h2.below hb) (hW.below hb) hz
 by_cases e12:s.data.toList=[124]
 · obtain rfl:s=⟨#[124]⟩:=text_eq e12
   exact PTwo_g hz hW.sm.sc rfl fun w hb=>spTwo_is (h1.below hb) (h2.below hb) (hW.below hb) hz
 by_cases e13:s.data.toList=[60]
 · obtain rfl:s=⟨#[60]⟩:=text_eq e13
   exact PTwo_g hz hW.sm.sc rfl fun w hb=>spTwo_is (h1.below hb) (h2.below hb) (hW.below hb) hz
 by_cases e14:s.data.toList=[62]
 · obtain rfl:s=⟨#[62]⟩:=text_eq e14
   exact PTwo_g hz hW.sm.sc rfl fun w hb=>spTwo_is (h1.below hb) (h2.below hb) (hW.below hb) hz
 by_cases e15:s.data.toList=[61]
 · obtain rfl:s=⟨#[61]⟩:=text_eq e15
   exact PTwo_g hz hW.sm.sc rfl fun w hb=>spTwo_is (h1.below hb) (h2.below hb) (hW.below hb) hz
 by_cases e16:s.data.toList=[126]
 · obtain rfl:s=⟨#[126]⟩:=text_eq e16
   exact PTwo_g hz hW.sm.sc rfl fun w hb=>spTwo_is (h1.below hb) (h2.below hb) (hW.below hb) hz
 rw[show twoP s.data.toList o p=(none,1)by simp[twoP,kdL,e0,e1,e2,e3,e4,e5,e6,e7,e8,e9,e10,e11,e12,e13,e14,e15,e16]]
 refine PTwo_no hz hW.sm.sc ?_
 simp only[finK,MTwo,LTwo,GTwo,List.map_cons,List.map_nil,List.cons_append,List.nil_append,List.filter_cons,List.filter_nil]
 simp[Ne.symm e0,Ne.symm e1,Ne.symm e2,Ne.symm e3,Ne.symm e4,Ne.symm e5,Ne.symm e6,Ne.symm e7,Ne.symm e8,Ne.symm e9,Ne.symm e10,Ne.symm e11,Ne.symm e12,Ne.symm e13,Ne.symm e14,Ne.symm e15,Ne.symm e16]
def UEnd (r:Option Ar) (W:World) (e:Ending) (W':World):Prop:=
 ∃a n c b m d,e=.returned (.tuple #[.agg #[.slice a n c,.slice b m d],.bool r.isSome])∧Av W' a n c b m d (TS r).1 (TS r).2 r∧Below W.heap.size W W'
theorem unB {l:List UInt8}:(decide (l=[43])||decide (l=[42]))=(unP l).isSome:=by
 unfold unP
 by_cases h:l=[43]
 · simp[h]
 · by_cases g:l=[42]
   · simp[g]
   · simp[h,g]
theorem unP_yes {l:List UInt8} (q:Ar) (h:unP l=some q):∃x:Int,q=([],[x])∧x.natAbs<2∧S x=(if l=[43]then⟨#[48]⟩else if l=[42]then⟨#[49]⟩else⟨#[]⟩):=by
 unfold unP at h
 split at h
 · rename_i e
   obtain rfl:=Option.some.inj h
   exact⟨0,rfl,by decide,by rw[if_pos e];exact S_0⟩
 · rename_i e
   split at h
   · rename_i e'
     obtain rfl:=Option.some.inj h
     exact⟨1,rfl,by decide,by rw[if_neg e,if_pos e'];exact S_1⟩
   · cases h
theorem PUnit_is (s:ByteArray) {W:World} (hW:SC W) (hz:s.size≤maxLen):Calls Tryz.prog 334 #[.string s] W (UEnd (unP s.data.toList) W):=by
 have hb0:Below W.heap.size W (W.alloc (.cells #[.slice none 0 0,.slice none 0 0] 25)):=(Below.refl _ _).alloc (Nat.le_refl _) _
 have h:Lv (fun w=>Bx w W.heap.size none 0 0 none 0 0∧Below W.heap.size W w) (W.alloc (.cells #[.slice none 0 0,.slice none 0 0] 25)):=⟨⟨Bx.new W _ _ _ _ _ _,hb0⟩⟩
 have KU:=un_ok hz _ (hW.below hb0)
 rw[unB]at KU
 have HY:=Lib.hid (fun q=>unP_yes (l:=s.data.toList) q)
 generalize unP s.data.toList=r at*
 generalize (if s.data.toList=[43]then(⟨#[48]⟩:ByteArray)else if s.data.toList=[42]then⟨#[49]⟩else⟨#[]⟩)=u at*
 replace KU:=Lib.hid KU
 clear hb0 hW hz
 cases r with
 |none=>
  go_enter Tryz.func334,Tryz.ntmps334
  go_wp2_with fail
  with_reducible refine(live h KU.out).mono ?_
  clear h KU
  rintro e w ⟨rfl,h⟩
  have y0:=h.out.1.c0
  have y3:=h.out.1.c1
  have f0:=h.out.1.f 0
  have f1:=h.out.1.f 1
  go_wp2_with fail
  have hR:=h.out.1.set none 0 0 none 0 0
  have r0:=hR.c0
  have r1:=hR.c1
  exact bodyPost_ret (v:=.tuple #[.agg #[.slice none 0 0,.slice none 0 0],.bool false]) (by simp[results,Tryz.results334,go_sem,r0,r1]) rfl
   ⟨none,0,0,none,0,0,rfl,⟨Vl.none_ _,cp0,fun j hj=>absurd hj (Nat.not_lt_zero _),ais_none⟩,below_made h.out.2 (Nat.le_refl _) _ _⟩
 |some q=>
  obtain⟨x,rfl,hx,hS⟩:=HY.out _ rfl
  subst hS
  have HX:Hid (Rok (some ([],[x]))):=Lib.hid ⟨(by decide:szE []=0),(rfl:((1:Nat):Int)=pr []),fun z hz=>by
   rw[List.mem_singleton]at hz
   rw[hz]
   exact Nat.lt_of_lt_of_le hx (Nat.le_trans (by decide) lim_big)⟩
  clear hx HY
  generalize hy:S x=y at*
  have HS:=Lib.hid hy
  clear hy
  go_enter Tryz.func334,Tryz.ntmps334
  go_wp2_with fail
  with_reducible refine(live h KU.out).mono ?_
  clear h KU
  rintro e w ⟨rfl,h⟩
  have hA:Below w.heap.size w (w.alloc (.cells #[.string y] 9)):=(Below.refl _ _).alloc (Nat.le_refl _) _
  have hc:=cell_of_row _ _ 0 _ _ _ (heap_alloc_new w (.cells #[.string y] 9))
  replace h:=live_to h hA
  have HC:=Lib.hid hc
  clear hc hA
  have y0:=h.out.1.c0
  have y3:=h.out.1.c1
  have f0:=h.out.1.f 0
  have f1:=h.out.1.f 1
  go_wp2_with fail
  have hR:=h.out.1.set none 0 0 (some ⟨w.heap.size,0,none⟩) 1 1
  have r0:=hR.c0
  have r1:=hR.c1
  have hV:=Vl.one HC.out
  exact bodyPost_ret (v:=.tuple #[.agg #[.slice none 0 0,.slice (some ⟨w.heap.size,0,none⟩) 1 1],.bool true]) (by simp[results,Tryz.results334,go_sem,r0,r1]) rfl
   ⟨none,0,0,some ⟨w.heap.size,0,none⟩,1,1,rfl,⟨⟨h.out.1.sl hV.s _ _,by show St _ _ _ [S x];rw[HS.out];exact h.out.1.st hV.t _ _,hV.mm⟩,⟨Nat.le_refl _,by unfold maxLen;omega,Nat.le_refl _,by unfold maxLen;omega⟩,HX.out.sz rfl,HX.out.ais⟩,below_made h.out.2 (Nat.le_refl _) _ _⟩
end Go.Proofs.YtbijncndjlmmdaaGreatDoor
namespace Go.Proofs.YtbijncndjlmmdaaGreatDoor
set_option linter.unusedVariables false
set_option linter.unusedSimpArgs false
open Go.ChangeShapes Go.WideShapes Go.ChangeAt Go.RowKit
theorem own:ownKnob Tryz.prog.godebug=none:=by kernel_rfl
theorem gPow:Tryz.prog.globalNamed "internal/strconv.uint64pow10" =some 2:=by kernel_rfl
theorem tPow:(Tryz.prog.globals[2]?).map (·.type)=some 205:=by kernel_rfl
theorem powData:(Rows.laid_internal_strconv_uint64pow10:DataW Unit)=Lib.tabData .u64 Lib.pow10Tab:=by kernel_rfl
end Go.Proofs.YtbijncndjlmmdaaGreatDoor
namespace Go.Proofs.YtbijncndjlmmdaaGreatDoor
set_option linter.unusedVariables false
set_option linter.unusedSimpArgs false
section
open Go.ChangeShapes Go.WideShapes Go.ChangeAt Go.RowKit
end
section
open Go.ChangeShapes Go.WideShapes Go.ChangeAt Go.RowKit
theorem gErr:Tryz.prog.globalNamed "strconv.ErrRange" =some 7:=by kernel_rfl
theorem tErr:(Tryz.prog.globals[7]?).map (·.type)=some 213:=by kernel_rfl
theorem star: "*" ++ "errors.errorString" = "*errors.errorString" :=by decide
theorem rowErr (u:TypeId) (h:Tryz.prog.typeName? 3 u=some "*errors.errorString"):u=270:=
 typeName_ptr_named (nm:= "errors.errorString") (by rw[star];kernel_rfl) (by kernel_rfl) (by decide) u (by rw[star];exact h)
end
end Go.Proofs.YtbijncndjlmmdaaGreatDoor
namespace Go.Proofs.YtbijncndjlmmdaaGreatDoor
set_option linter.unusedVariables false
set_option linter.unusedSimpArgs false
open Go.ChangeShapes Go.WideShapes Go.ChangeAt Go.RowKit
theorem laidOut:laidOutB Tryz.prog=true:=by kernel_rfl
theorem strings_at {w:World} {a:Addr} {ss:List ByteArray} (h:∀i,i<ss.length→w.cell? (a.add i)=some (.string (ss.getD i ByteArray.empty))) (hp:0<ss.length):
 ∃b off,a=⟨b,off,none⟩∧∀j,j<ss.length→w.cell? ⟨b,off+j,none⟩=some (.string (ss.getD j ByteArray.empty)):=by
 obtain⟨b,off,spot⟩:=a
 have hspot:spot=none:=by simpa[Addr.add]using World.cell?_spot (h 0 hp)
 subst hspot
 exact⟨b,off,rfl,fun j hj=>by rw[←Go.WideShapes.add_plain];exact h j hj⟩
theorem i64_of {x:Int} (h:(Lit.int .i64 x).wf=true):I64 x:=by
 have h1:IntKind.i64.min= -9223372036854775808:=rfl
 have h2:IntKind.i64.max=9223372036854775807:=rfl
 simp only[Lit.wf,Bool.and_eq_true,decide_eq_true_eq]at h
 unfold I64
 omega
theorem u8_of {x:Int} (h:(Lit.int .u8 x).wf=true):0≤x∧x≤255:=by
 have h1:IntKind.u8.min=0:=rfl
 have h2:IntKind.u8.max=255:=rfl
 simp only[Lit.wf,Bool.and_eq_true,decide_eq_true_eq]at h
 omega
theorem ints_opened {H:Type} {enc:TypeId×Value→H} {W:World} {fuel:Nat} {v:Value} {x:DataW H×List MemPlace} (hf:DataW.trod enc Tryz.prog W 0 (fun _=>true) true fuel 22 [v]=some x):
 ∃a n c l,v=.slice a n c∧Sl W a n l∧(∀j,j<n→I64 (l.getD j 0))∧n≤c∧c≤maxLen:=by
 have hc:Tryz.prog.cellsOf 3=1:=by kernel_rfl
 rcases open_ints Tryz.underlying22 Tryz.underlying3 hc hf with⟨hcs,_⟩|⟨a',n',c',zs,hcs,_,hle,hmax,hall,_,hcell,hwf⟩
 · simp at hcs
   exact⟨none,0,0,[],hcs,Sl.nil _ _,fun j hj=>by omega,Nat.le_refl _,by unfold maxLen;omega⟩
 · simp at hcs
   simp only[if_true]at hall
   have hget:∀j,j<n'→(zs.take n').getD j 0=zs.getD j 0:=fun j hj=>by simp[List.getD,List.getElem?_take_of_lt hj]
   refine⟨some a',n',c',zs.take n',hcs,⟨by simp;omega,fun hn=> ?_⟩,fun j hj=> ?_,hle,hmax⟩
   · obtain⟨b,off,rfl,hc2⟩:=ints_at hcell (by omega)
     exact⟨b,off,rfl,fun j hj=>by rw[hc2 j (by omega),hget j hj]⟩
   · rw[hget j hj,List.getD_eq_getElem?_getD,List.getElem?_eq_getElem (show j<zs.length by omega)]
     exact i64_of (hwf _ (List.getElem_mem _))
theorem strs_opened {H:Type} {enc:TypeId×Value→H} {W:World} {fuel:Nat} {v:Value} {x:DataW H×List MemPlace} (hf:DataW.trod enc Tryz.prog W 0 (fun _=>true) true fuel 23 [v]=some x):
 ∃a n c l,v=.slice a n c∧St W a n l∧(∀j,j<n→(l.getD j ByteArray.empty).size≤maxLen)∧n≤c∧c≤maxLen:=by
 have hc:Tryz.prog.cellsOf 9=1:=by kernel_rfl
 rcases open_strings Tryz.underlying23 Tryz.underlying9 hc hf with⟨hcs,_⟩|⟨a',n',c',zs,hcs,_,hle,hmax,hall,_,hcell,hwf⟩
 · simp at hcs
   exact⟨none,0,0,[],hcs,St.nil _ _,fun j hj=>by omega,Nat.le_refl _,by unfold maxLen;omega⟩
 · simp at hcs
   simp only[if_true]at hall
   have hget:∀j,j<n'→(zs.take n').getD j ByteArray.empty=zs.getD j ByteArray.empty:=fun j hj=>by simp[List.getD,List.getElem?_take_of_lt hj]
   refine⟨some a',n',c',zs.take n',hcs,⟨by simp;omega,fun hn=> ?_⟩,fun j hj=> ?_,hle,hmax⟩
   · obtain⟨b,off,rfl,hc2⟩:=strings_at hcell (by omega)
     exact⟨b,off,rfl,fun j hj=>by rw[hc2 j (by omega),hget j hj]⟩
   · rw[hget j hj,List.getD_eq_getElem?_getD,List.getElem?_eq_getElem (show j<zs.length by omega)]
     exact hwf _ (List.getElem_mem _)
theorem maxLen_i64:maxLen≤9223372036854775807:=by unfold maxLen;omega
theorem val_opened {H:Type} {enc:TypeId×Value→H} {W:World} {r:Reach} {b0:Nat} {v:Value} {dd:DataW H} {p:List MemPlace} (hv:Value.okWide Tryz.prog W r b0 25 v) (h:DataW.Trod enc Tryz.prog W 0 (fun _=>true) true 25 v dd p):
 ∃a n c b m d l es,v=.agg #[.slice a n c,.slice b m d]∧Vl W a n b m l es∧Cp n c m d∧(∀j,j<m→(es.getD j ByteArray.empty).size≤maxLen):=by
 obtain⟨v0,v1,y0,y1,n,rfl,_,_,t0,t1⟩:=Go.Joins.open_agg2 Tryz.underlying25 (by kernel_rfl) (by kernel_rfl) hv h
 obtain⟨a,k,c,l,rfl,hs,_,q1,q2⟩:=ints_opened t0
 obtain⟨b,m,d,es,rfl,ht,hz,q3,q4⟩:=strs_opened t1
 exact⟨a,k,c,b,m,d,l,es,rfl,⟨hs,ht,Nat.le_trans (Nat.le_trans q3 q4) maxLen_i64⟩,⟨q1,q2,q3,q4⟩,hz⟩
end Go.Proofs.YtbijncndjlmmdaaGreatDoor

import Derived.Test.YtcfbjdplhgdpfaaGreatDoorTbq
import Derived.Test.YtcfbjdplhgdpfaaGreatDoorTbr
set_option maxHeartbeats 6400000
set_option maxRecDepth 100000
namespace Go.Proofs.YtcfbjdplhgdpfaaGreatDoor
set_option linter.unusedVariables false
set_option linter.unusedSimpArgs false
theorem zMn {P:Prop}(h:P:=by simp at hx;omega):P:=h
theorem yTm {P:Prop}(h:P:=by simp[results,Tryz.results9,go_sem,r0,r1]):P:=h
theorem zPm {P:Prop}(h:P:=by simp[results,Tryz.results13,go_sem,r0,r1]):P:=h
theorem zOm {P:Prop}(h:P:=by simp[results,Tryz.results11,go_sem,r0,r1]):P:=h
theorem xOl {P:Prop}(h:P:=by repeat' (first|exact zI _ _|refine zU ?_|refine zSf ?_ _|refine zV ?_ ?_ _|exact zR _|(simp;done)|(simp;omega))):P:=h
section
open Go.RowKit Go.Maps Go.MapKept Go.WideMaps
structure PW (W:World):Prop where
 sm:SM W
 wt:WT W
theorem PW.below {w w':World} (h:PW w) (hb:Below w.heap.size w w'):PW w':=⟨h.sm.below hb,h.wt.below hb⟩
theorem zA5 {r:Option Ar×Int} {W w:World} {e:Ending} (ha:AIs (TS r.1).1 (TS r.1).2 r.1) (h:yPf (TS r.1).1 (TS r.1).2 r.2 W e w):xL3 r W e w:=by
 obtain⟨a,n,c,b,m,d,rfl,hv,hc,hb⟩:=h;exact⟨a,n,c,b,m,d,rfl,⟨hv,hc,xI3 ha hv.t.1.symm,ha⟩,hb⟩
theorem zB5 {s:ByteArray} {a1 b1:Option Addr} {n1 c1 m1 d1:Nat} {W:World} {r:Option Ar×Int} (hc:∀w,Below W.heap.size W w→Calls Tryz.prog 109 #[.string s,.agg #[.slice a1 n1 c1,.slice b1 m1 d1]] w (xL3 r w)):
 Calls Tryz.prog 57 #[.string s,.agg #[.slice a1 n1 c1,.slice b1 m1 d1]] W (xL3 r W):=by
 have KC:=zC hc;clear hc;have h:=xO3 W a1 n1 c1 b1 m1 d1;go_in;have x1:=h.out.2.1.c0;have y1:=h.out.2.1.c1;go_wp2_with fail;refine(KC.out _ h.out.2.2).mono ?_;rintro e w2 ⟨ar,nr,cr,br,mr,dr,rfl,hv,hq⟩;replace h:=xVf h hq;have HV:=zC hv;clear hv hq x1 y1;have y0:=h.out.1.c0;have y3:=h.out.1.c1;have f0:=h.out.1.f 0;have f1:=h.out.1.f 1;go_wp2_with fail;have hR:=h.out.1.set ar nr cr br mr dr;have r0:=hR.c0;have r1:=hR.c1;exact zE (v:=.tuple #[.agg #[.slice ar nr cr,.slice br mr dr],.int .i64 r.2]) (by simp[results,Tryz.results57,go_sem,r0,r1]) rfl (xM3 (r:=r) h.out.1 h.out.2.2 yEn HV.out.v HV.out.c HV.out.i.rok)
theorem zC5 {s:ByteArray} {a1 b1:Option Addr} {n1 c1 m1 d1:Nat} {W:World} {l:List Int} {es:List ByteArray} {o:Option Ar} (h1:Av W a1 n1 c1 b1 m1 d1 l es o) (hW:PW W) (hz:s.size≤maxLen):Calls Tryz.prog 57 #[.string s,.agg #[.slice a1 n1 c1,.slice b1 m1 d1]] W (xL3 (mnA (kmL s.data.toList) o) W):=
 zB5 fun w hb=>(xG3 _ (hW.sm.below hb) hz (h1.below hb).v h1.z h1.i).mono fun _ _ h=>zA5 (zIi h1.i) h
theorem zD5 {s:ByteArray} {a1 b1:Option Addr} {n1 c1 m1 d1:Nat} {W:World} {f:Nat} {r:Option Ar×Int} (hz:s.size≤maxLen) (hW:SM W) (hf:s=⟨#[33]⟩∧f=46∨s=⟨#[35]⟩∧f=47∨s=⟨#[61]⟩∧f=48∨s=⟨#[44]⟩∧f=49∨s=⟨#[124]⟩∧f=50∨s=⟨#[43]⟩∧f=51∨s=⟨#[60]⟩∧f=52∨s=⟨#[62]⟩∧f=53∨s=⟨#[38]⟩∧f=54∨s=⟨#[63]⟩∧f=55) (hc:∀w,Below W.heap.size W w→Calls Tryz.prog f #[.agg #[.slice a1 n1 c1,.slice b1 m1 d1]] w (xL3 r w)):
 Calls Tryz.prog 9 #[.string s,.agg #[.slice a1 n1 c1,.slice b1 m1 d1]] W (xL3 r W):=by
 have h:=xO3 W a1 n1 c1 b1 m1 d1;have KM:=zC fun w (hb:Below W.heap.size W w)=>zQ7 s (hW.below hb);rcases hf with⟨rfl,rfl⟩|⟨rfl,rfl⟩|⟨rfl,rfl⟩|⟨rfl,rfl⟩|⟨rfl,rfl⟩|⟨rfl,rfl⟩|⟨rfl,rfl⟩|⟨rfl,rfl⟩|⟨rfl,rfl⟩|⟨rfl,rfl⟩
 all_goals
  have KC:=zC hc;clear hW hc;go_in;go_wp2_with fail;refine(KM.out _ h.out.2.2).mono ?_;rintro e w1 ⟨bm,rfl,hT,hq⟩;have hl:=xXd hT Tryz.underlying45 Tryz.underlying30 rfl hz rfl;replace h:=xVf h hq;clear hT hq KM;have x1:=h.out.2.1.c0;have y1:=h.out.2.1.c1;go_wp2_with fail;refine(KC.out _ h.out.2.2).mono ?_;rintro e w2 ⟨ar,nr,cr,br,mr,dr,rfl,hv,hq⟩;replace h:=xVf h hq;have HV:=zC hv;clear hv hq x1 y1;have y0:=h.out.1.c0;have y3:=h.out.1.c1;have f0:=h.out.1.f 0;have f1:=h.out.1.f 1;go_wp2_with fail;have hR:=h.out.1.set ar nr cr br mr dr;have r0:=hR.c0;have r1:=hR.c1;exact zE (v:=.tuple #[.agg #[.slice ar nr cr,.slice br mr dr],.int .i64 r.2]) yTm rfl (xM3 (r:=r) h.out.1 h.out.2.2 yEn HV.out.v HV.out.c HV.out.i.rok)
theorem zE5 {s:ByteArray} {a1 b1:Option Addr} {n1 c1 m1 d1:Nat} {W:World} {r:Option Ar×Int} (hz:s.size≤maxLen) (hW:SM W) (hf:xSd (zN7 s) s=[.func (.func 57) #[.string s] #[]]) (hc:∀w,Below W.heap.size W w→Calls Tryz.prog 57 #[.string s,.agg #[.slice a1 n1 c1,.slice b1 m1 d1]] w (xL3 r w)):
 Calls Tryz.prog 9 #[.string s,.agg #[.slice a1 n1 c1,.slice b1 m1 d1]] W (xL3 r W):=by
 have KM:=zC fun w (hb:Below W.heap.size W w)=>zQ7 s (hW.below hb);have KC:=zC hc;have KF:=zC (And.intro hz hf);clear hW hc hf hz;have h:=xO3 W a1 n1 c1 b1 m1 d1;go_in;go_wp2_with fail;refine(KM.out _ h.out.2.2).mono ?_;rintro e w1 ⟨bm,rfl,hT,hq⟩;have hl:=xXd hT Tryz.underlying45 Tryz.underlying30 rfl KF.out.1 KF.out.2;replace h:=xVf h hq;clear hT hq KM KF;have x1:=h.out.2.1.c0;have y1:=h.out.2.1.c1;go_wp2_with fail;refine(KC.out _ h.out.2.2).mono ?_;rintro e w2 ⟨ar,nr,cr,br,mr,dr,rfl,hv,hq⟩;replace h:=xVf h hq;have HV:=zC hv;clear hv hq x1 y1;have y0:=h.out.1.c0;have y3:=h.out.1.c1;have f0:=h.out.1.f 0;have f1:=h.out.1.f 1;go_wp2_with fail;have hR:=h.out.1.set ar nr cr br mr dr;have r0:=hR.c0;have r1:=hR.c1;exact zE (v:=.tuple #[.agg #[.slice ar nr cr,.slice br mr dr],.int .i64 r.2]) yTm rfl (xM3 (r:=r) h.out.1 h.out.2.2 yEn HV.out.v HV.out.c HV.out.i.rok)
theorem zF5 {s:ByteArray} {a1 b1:Option Addr} {n1 c1 m1 d1:Nat} {W:World} (hz:s.size≤maxLen) (hW:SM W) (hf:xSd (zN7 s) s=[]):Calls Tryz.prog 9 #[.string s,.agg #[.slice a1 n1 c1,.slice b1 m1 d1]] W (xL3 (none,1) W):=by
 have KM:=zC fun w (hb:Below W.heap.size W w)=>zQ7 s (hW.below hb);have KF:=zC (And.intro hz hf);clear hW hf hz;have h:=xO3 W a1 n1 c1 b1 m1 d1;go_in;go_wp2_with fail;refine(KM.out _ h.out.2.2).mono ?_;rintro e w1 ⟨bm,rfl,hT,hq⟩;have hl:=xYd hT Tryz.underlying45 Tryz.underlying30 rfl KF.out.1 (zv:=.nilFunc) zYn KF.out.2;replace h:=xVf h hq;clear hT hq KM KF;have y0:=h.out.1.c0;have y3:=h.out.1.c1;have f0:=h.out.1.f 0;have f1:=h.out.1.f 1;go_wp2_with fail;have hR:=h.out.1.set none 0 0 none 0 0;have r0:=hR.c0;have r1:=hR.c1;exact zE (v:=.tuple #[.agg #[.slice none 0 0,.slice none 0 0],.int .i64 1]) yTm rfl (xN3 h.out.1 h.out.2.2 yEn)
theorem zG5 {s:ByteArray} {a1 b1:Option Addr} {n1 c1 m1 d1:Nat} {W:World} {l:List Int} {es:List ByteArray} {o:Option Ar} (h1:Av W a1 n1 c1 b1 m1 d1 l es o) (hW:PW W) (hz:s.size≤maxLen):Calls Tryz.prog 9 #[.string s,.agg #[.slice a1 n1 c1,.slice b1 m1 d1]] W (xL3 (yJ3 s.data.toList o) W):=by
 by_cases e0:s.data.toList=[33]
 · obtain rfl:s=⟨#[33]⟩:=xTd e0
   exact zD5 hz hW.sm (f:=46) yHn fun w hb=>zHg (h1.below hb) (hW.wt.below hb)
 by_cases e1:s.data.toList=[35]
 · obtain rfl:s=⟨#[35]⟩:=xTd e1
   exact zD5 hz hW.sm (f:=47) yHn fun w hb=>zLg (h1.below hb) (hW.wt.below hb)
 by_cases e2:s.data.toList=[61]
 · obtain rfl:s=⟨#[61]⟩:=xTd e2
   exact zD5 hz hW.sm (f:=48) yHn fun w hb=>zOg (h1.below hb) (hW.wt.below hb)
 by_cases e3:s.data.toList=[44]
 · obtain rfl:s=⟨#[44]⟩:=xTd e3
   exact zD5 hz hW.sm (f:=49) yHn fun w hb=>zRg (h1.below hb)
 by_cases e4:s.data.toList=[124]
 · obtain rfl:s=⟨#[124]⟩:=xTd e4
   exact zD5 hz hW.sm (f:=50) yHn fun w hb=>xM7 (h1.below hb)
 by_cases e5:s.data.toList=[43]
 · obtain rfl:s=⟨#[43]⟩:=xTd e5
   exact zD5 hz hW.sm (f:=51) yHn fun w hb=>xN7 (h1.below hb)
 by_cases e6:s.data.toList=[60]
 · obtain rfl:s=⟨#[60]⟩:=xTd e6
   exact zD5 hz hW.sm (f:=52) yHn fun w hb=>yEh (h1.below hb) (hW.wt.below hb)
 by_cases e7:s.data.toList=[62]
 · obtain rfl:s=⟨#[62]⟩:=xTd e7
   exact zD5 hz hW.sm (f:=53) yHn fun w hb=>yFh (h1.below hb) (hW.wt.below hb)
 by_cases e8:s.data.toList=[38]
 · obtain rfl:s=⟨#[38]⟩:=xTd e8
   exact zD5 hz hW.sm (f:=54) yHn fun w hb=>zE9 (h1.below hb) (hW.wt.below hb)
 by_cases e9:s.data.toList=[63]
 · obtain rfl:s=⟨#[63]⟩:=xTd e9
   exact zD5 hz hW.sm (f:=55) yHn fun w hb=>yEa (h1.below hb) (hW.wt.below hb)
 by_cases e10:s.data.toList=[45]
 · obtain rfl:s=⟨#[45]⟩:=xTd e10
   exact zE5 hz hW.sm rfl fun w hb=>zC5 (h1.below hb) (hW.below hb) hz
 by_cases e11:s.data.toList=[126]
 · obtain rfl:s=⟨#[126]⟩:=xTd e11
   exact zE5 hz hW.sm rfl fun w hb=>zC5 (h1.below hb) (hW.below hb) hz
 by_cases e12:s.data.toList=[42]
 · obtain rfl:s=⟨#[42]⟩:=xTd e12
   exact zE5 hz hW.sm rfl fun w hb=>zC5 (h1.below hb) (hW.below hb) hz
 rw[show yJ3 s.data.toList o=(none,1)by simp[yJ3,kmL,e0,e1,e2,e3,e4,e5,e6,e7,e8,e9,e10,e11,e12]];refine zF5 hz hW.sm ?_;simp only[xSd,zN7,zL7,zM7,zU1,zV1,zW1,zS0,List.filter_cons,List.filter_nil];simp[xL0 e0,xL0 e1,xL0 e2,xL0 e3,xL0 e4,xL0 e5,xL0 e6,xL0 e7,xL0 e8,xL0 e9,xL0 e10,xL0 e11,xL0 e12]
theorem zH5 {s:ByteArray} {a1 b1 a2 b2:Option Addr} {n1 c1 m1 d1 n2 c2 m2 d2:Nat} {W:World} {r:Option Ar×Int} (hc:∀w,Below W.heap.size W w→Calls Tryz.prog 126 #[.string s,.agg #[.slice a1 n1 c1,.slice b1 m1 d1],.agg #[.slice a2 n2 c2,.slice b2 m2 d2]] w (xL3 r w)):
 Calls Tryz.prog 79 #[.string s,.agg #[.slice a1 n1 c1,.slice b1 m1 d1],.agg #[.slice a2 n2 c2,.slice b2 m2 d2]] W (xL3 r W):=by
 have KC:=zC hc;clear hc;have h:=xP3 W a1 n1 c1 b1 m1 d1 a2 n2 c2 b2 m2 d2;go_in;have x1:=h.out.2.2.1.c0;have y1:=h.out.2.2.1.c1;have x2:=h.out.2.1.c0;have y2:=h.out.2.1.c1;go_wp2_with fail;refine(KC.out _ h.out.2.2.2).mono ?_;rintro e w2 ⟨ar,nr,cr,br,mr,dr,rfl,hv,hq⟩;replace h:=xVf h hq;have HV:=zC hv;clear hv hq x1 y1 x2 y2;have y0:=h.out.1.c0;have y3:=h.out.1.c1;have f0:=h.out.1.f 0;have f1:=h.out.1.f 1;go_wp2_with fail;have hR:=h.out.1.set ar nr cr br mr dr;have r0:=hR.c0;have r1:=hR.c1;exact zE (v:=.tuple #[.agg #[.slice ar nr cr,.slice br mr dr],.int .i64 r.2]) (by simp[results,Tryz.results79,go_sem,r0,r1]) rfl (xM3 (r:=r) h.out.1 h.out.2.2.2 yEn HV.out.v HV.out.c HV.out.i.rok)
theorem zI5 {s:ByteArray} {a1 b1 a2 b2:Option Addr} {n1 c1 m1 d1 n2 c2 m2 d2:Nat} {W:World} {l m:List Int} {es fs:List ByteArray} {o p:Option Ar} (h1:Av W a1 n1 c1 b1 m1 d1 l es o) (h2:Av W a2 n2 c2 b2 m2 d2 m fs p) (hW:PW W) (hz:s.size≤maxLen):Calls Tryz.prog 79 #[.string s,.agg #[.slice a1 n1 c1,.slice b1 m1 d1],.agg #[.slice a2 n2 c2,.slice b2 m2 d2]] W (xL3 (dyA (kdL s.data.toList) o p) W):=
 zH5 fun w hb=>(yFl _ (hW.sm.sc.below hb) hz (h1.below hb).v (h2.below hb).v h1.z h2.z h1.i h2.i).mono fun _ _ h=>zA5 (zGi h1.i h2.i) h
theorem zJ5 {s:ByteArray} {a1 b1 a2 b2:Option Addr} {n1 c1 m1 d1 n2 c2 m2 d2:Nat} {W:World} {f:Nat} {r:Option Ar×Int} (hz:s.size≤maxLen) (hW:SC W) (hf:s=⟨#[35]⟩∧f=72∨s=⟨#[94]⟩∧f=73∨s=⟨#[36]⟩∧f=74∨s=⟨#[44]⟩∧f=75∨s=⟨#[63]⟩∧f=76∨s=⟨#[64]⟩∧f=77) (hc:∀w,Below W.heap.size W w→Calls Tryz.prog f #[.agg #[.slice a1 n1 c1,.slice b1 m1 d1],.agg #[.slice a2 n2 c2,.slice b2 m2 d2]] w (xL3 r w)):
 Calls Tryz.prog 11 #[.string s,.agg #[.slice a1 n1 c1,.slice b1 m1 d1],.agg #[.slice a2 n2 c2,.slice b2 m2 d2]] W (xL3 r W):=by
 have h:=xP3 W a1 n1 c1 b1 m1 d1 a2 n2 c2 b2 m2 d2;have KM:=zC fun w (hb:Below W.heap.size W w)=>zW7 s (hW.below hb);rcases hf with⟨rfl,rfl⟩|⟨rfl,rfl⟩|⟨rfl,rfl⟩|⟨rfl,rfl⟩|⟨rfl,rfl⟩|⟨rfl,rfl⟩
 all_goals
  have KC:=zC hc;clear hW hc;go_in;go_wp2_with fail;refine(KM.out _ h.out.2.2.2).mono ?_;rintro e w1 ⟨bm,rfl,hT,hq⟩;have hl:=xXd hT Tryz.underlying49 Tryz.underlying30 rfl hz rfl;replace h:=xVf h hq;clear hT hq KM;have x1:=h.out.2.2.1.c0;have y1:=h.out.2.2.1.c1;have x2:=h.out.2.1.c0;have y2:=h.out.2.1.c1;go_wp2_with fail;refine(KC.out _ h.out.2.2.2).mono ?_;rintro e w2 ⟨ar,nr,cr,br,mr,dr,rfl,hv,hq⟩;replace h:=xVf h hq;have HV:=zC hv;clear hv hq x1 y1 x2 y2;have y0:=h.out.1.c0;have y3:=h.out.1.c1;have f0:=h.out.1.f 0;have f1:=h.out.1.f 1;go_wp2_with fail;have hR:=h.out.1.set ar nr cr br mr dr;have r0:=hR.c0;have r1:=hR.c1;exact zE (v:=.tuple #[.agg #[.slice ar nr cr,.slice br mr dr],.int .i64 r.2]) zOm rfl (xM3 (r:=r) h.out.1 h.out.2.2.2 yEn HV.out.v HV.out.c HV.out.i.rok)
theorem zK5 {s:ByteArray} {a1 b1 a2 b2:Option Addr} {n1 c1 m1 d1 n2 c2 m2 d2:Nat} {W:World} {r:Option Ar×Int} (hz:s.size≤maxLen) (hW:SC W) (hf:xSd (zT7 s) s=[.func (.func 79) #[.string s] #[]]) (hc:∀w,Below W.heap.size W w→Calls Tryz.prog 79 #[.string s,.agg #[.slice a1 n1 c1,.slice b1 m1 d1],.agg #[.slice a2 n2 c2,.slice b2 m2 d2]] w (xL3 r w)):
 Calls Tryz.prog 11 #[.string s,.agg #[.slice a1 n1 c1,.slice b1 m1 d1],.agg #[.slice a2 n2 c2,.slice b2 m2 d2]] W (xL3 r W):=by
 have KM:=zC fun w (hb:Below W.heap.size W w)=>zW7 s (hW.below hb);have KC:=zC hc;have KF:=zC (And.intro hz hf);clear hW hc hf hz;have h:=xP3 W a1 n1 c1 b1 m1 d1 a2 n2 c2 b2 m2 d2;go_in;go_wp2_with fail;refine(KM.out _ h.out.2.2.2).mono ?_;rintro e w1 ⟨bm,rfl,hT,hq⟩;have hl:=xXd hT Tryz.underlying49 Tryz.underlying30 rfl KF.out.1 KF.out.2;replace h:=xVf h hq;clear hT hq KM KF;have x1:=h.out.2.2.1.c0;have y1:=h.out.2.2.1.c1;have x2:=h.out.2.1.c0;have y2:=h.out.2.1.c1;go_wp2_with fail;refine(KC.out _ h.out.2.2.2).mono ?_;rintro e w2 ⟨ar,nr,cr,br,mr,dr,rfl,hv,hq⟩;replace h:=xVf h hq;have HV:=zC hv;clear hv hq x1 y1 x2 y2;have y0:=h.out.1.c0;have y3:=h.out.1.c1;have f0:=h.out.1.f 0;have f1:=h.out.1.f 1;go_wp2_with fail;have hR:=h.out.1.set ar nr cr br mr dr;have r0:=hR.c0;have r1:=hR.c1;exact zE (v:=.tuple #[.agg #[.slice ar nr cr,.slice br mr dr],.int .i64 r.2]) zOm rfl (xM3 (r:=r) h.out.1 h.out.2.2.2 yEn HV.out.v HV.out.c HV.out.i.rok)
theorem zL5 {s:ByteArray} {a1 b1 a2 b2:Option Addr} {n1 c1 m1 d1 n2 c2 m2 d2:Nat} {W:World} (hz:s.size≤maxLen) (hW:SC W) (hf:xSd (zT7 s) s=[]):Calls Tryz.prog 11 #[.string s,.agg #[.slice a1 n1 c1,.slice b1 m1 d1],.agg #[.slice a2 n2 c2,.slice b2 m2 d2]] W (xL3 (none,1) W):=by
 have KM:=zC fun w (hb:Below W.heap.size W w)=>zW7 s (hW.below hb);have KF:=zC (And.intro hz hf);clear hW hf hz;have h:=xP3 W a1 n1 c1 b1 m1 d1 a2 n2 c2 b2 m2 d2;go_in;go_wp2_with fail;refine(KM.out _ h.out.2.2.2).mono ?_;rintro e w1 ⟨bm,rfl,hT,hq⟩;have hl:=xYd hT Tryz.underlying49 Tryz.underlying30 rfl KF.out.1 (zv:=.nilFunc) zYn KF.out.2;replace h:=xVf h hq;clear hT hq KM KF;have y0:=h.out.1.c0;have y3:=h.out.1.c1;have f0:=h.out.1.f 0;have f1:=h.out.1.f 1;go_wp2_with fail;have hR:=h.out.1.set none 0 0 none 0 0;have r0:=hR.c0;have r1:=hR.c1;exact zE (v:=.tuple #[.agg #[.slice none 0 0,.slice none 0 0],.int .i64 1]) zOm rfl (xN3 h.out.1 h.out.2.2.2 yEn)
theorem zM5 {s:ByteArray} {a1 b1 a2 b2:Option Addr} {n1 c1 m1 d1 n2 c2 m2 d2:Nat} {W:World} {l m:List Int} {es fs:List ByteArray} {o p:Option Ar} (h1:Av W a1 n1 c1 b1 m1 d1 l es o) (h2:Av W a2 n2 c2 b2 m2 d2 m fs p) (hW:PW W) (hz:s.size≤maxLen):Calls Tryz.prog 11 #[.string s,.agg #[.slice a1 n1 c1,.slice b1 m1 d1],.agg #[.slice a2 n2 c2,.slice b2 m2 d2]] W (xL3 (yK3 s.data.toList o p) W):=by
 by_cases e0:s.data.toList=[35]
 · obtain rfl:s=⟨#[35]⟩:=xTd e0
   exact zJ5 hz hW.sm.sc (f:=72) yHn fun w hb=>zD8 (h1.below hb) (h2.below hb) (hW.wt.below hb)
 by_cases e1:s.data.toList=[94]
 · obtain rfl:s=⟨#[94]⟩:=xTd e1
   exact zJ5 hz hW.sm.sc (f:=73) yHn fun w hb=>xVc (h1.below hb) (h2.below hb) (hW.wt.below hb)
 by_cases e2:s.data.toList=[36]
 · obtain rfl:s=⟨#[36]⟩:=xTd e2
   exact zJ5 hz hW.sm.sc (f:=74) yHn fun w hb=>xWc (h1.below hb) (h2.below hb) (hW.wt.below hb)
 by_cases e3:s.data.toList=[44]
 · obtain rfl:s=⟨#[44]⟩:=xTd e3
   exact zJ5 hz hW.sm.sc (f:=75) yHn fun w hb=>zIf (h1.below hb) (h2.below hb)
 by_cases e4:s.data.toList=[63]
 · obtain rfl:s=⟨#[63]⟩:=xTd e4
   exact zJ5 hz hW.sm.sc (f:=76) yHn fun w hb=>yIa (h1.below hb) (h2.below hb) (hW.wt.below hb)
 by_cases e5:s.data.toList=[64]
 · obtain rfl:s=⟨#[64]⟩:=xTd e5
   exact zJ5 hz hW.sm.sc (f:=77) yHn fun w hb=>zWl (h1.below hb) (h2.below hb) (hW.wt.below hb)
 by_cases e6:s.data.toList=[43]
 · obtain rfl:s=⟨#[43]⟩:=xTd e6
   exact zK5 hz hW.sm.sc rfl fun w hb=>zI5 (h1.below hb) (h2.below hb) (hW.below hb) hz
 by_cases e7:s.data.toList=[45]
 · obtain rfl:s=⟨#[45]⟩:=xTd e7
   exact zK5 hz hW.sm.sc rfl fun w hb=>zI5 (h1.below hb) (h2.below hb) (hW.below hb) hz
 by_cases e8:s.data.toList=[42]
 · obtain rfl:s=⟨#[42]⟩:=xTd e8
   exact zK5 hz hW.sm.sc rfl fun w hb=>zI5 (h1.below hb) (h2.below hb) (hW.below hb) hz
 by_cases e9:s.data.toList=[37]
 · obtain rfl:s=⟨#[37]⟩:=xTd e9
   exact zK5 hz hW.sm.sc rfl fun w hb=>zI5 (h1.below hb) (h2.below hb) (hW.below hb) hz
 by_cases e10:s.data.toList=[33]
 · obtain rfl:s=⟨#[33]⟩:=xTd e10
   exact zK5 hz hW.sm.sc rfl fun w hb=>zI5 (h1.below hb) (h2.below hb) (hW.below hb) hz
 by_cases e11:s.data.toList=[38]
 · obtain rfl:s=⟨#[38]⟩:=xTd e11
   exact zK5 hz hW.sm.sc rfl fun w hb=>zI5 (h1.below hb) (h2.below hb) (hW.below hb) hz
 by_cases e12:s.data.toList=[124]
 · obtain rfl:s=⟨#[124]⟩:=xTd e12
   exact zK5 hz hW.sm.sc rfl fun w hb=>zI5 (h1.below hb) (h2.below hb) (hW.below hb) hz
 by_cases e13:s.data.toList=[60]
 · obtain rfl:s=⟨#[60]⟩:=xTd e13
   exact zK5 hz hW.sm.sc rfl fun w hb=>zI5 (h1.below hb) (h2.below hb) (hW.below hb) hz
 by_cases e14:s.data.toList=[62]
 · obtain rfl:s=⟨#[62]⟩:=xTd e14
   exact zK5 hz hW.sm.sc rfl fun w hb=>zI5 (h1.below hb) (h2.below hb) (hW.below hb) hz
 by_cases e15:s.data.toList=[61]
 · obtain rfl:s=⟨#[61]⟩:=xTd e15
   exact zK5 hz hW.sm.sc rfl fun w hb=>zI5 (h1.below hb) (h2.below hb) (hW.below hb) hz
 by_cases e16:s.data.toList=[126]
 · obtain rfl:s=⟨#[126]⟩:=xTd e16
   exact zK5 hz hW.sm.sc rfl fun w hb=>zI5 (h1.below hb) (h2.below hb) (hW.below hb) hz
 rw[show yK3 s.data.toList o p=(none,1)by simp[yK3,kdL,e0,e1,e2,e3,e4,e5,e6,e7,e8,e9,e10,e11,e12,e13,e14,e15,e16]];refine zL5 hz hW.sm.sc ?_;simp only[xSd,zT7,zR7,zS7,zU1,zV1,zW1,zS0,List.filter_cons,List.filter_nil];simp[xL0 e0,xL0 e1,xL0 e2,xL0 e3,xL0 e4,xL0 e5,xL0 e6,xL0 e7,xL0 e8,xL0 e9,xL0 e10,xL0 e11,xL0 e12,xL0 e13,xL0 e14,xL0 e15,xL0 e16]
def zN5 (r:Option Ar) (W:World) (e:Ending) (W':World):Prop:=
 ∃a n c b m d,e=.returned (.tuple #[.agg #[.slice a n c,.slice b m d],.bool r.isSome])∧Av W' a n c b m d (TS r).1 (TS r).2 r∧Below W.heap.size W W'
theorem unB {l:List UInt8}:(decide (l=[43])||decide (l=[42]))=(unP l).isSome:=by
 unfold unP;by_cases h:l=[43]
 · simp[h]
 · by_cases g:l=[42]
   · simp[g]
   · simp[h,g]
theorem zO5 {l:List UInt8} (q:Ar) (h:unP l=some q):∃x:Int,q=([],[x])∧x.natAbs<2∧S x=(if l=[43]then⟨#[48]⟩else if l=[42]then⟨#[49]⟩else⟨#[]⟩):=by
 unfold unP at h;split at h
 · rename_i e
   obtain rfl:=zX1 h;exact⟨0,rfl,by decide,by rw[yA e];exact S_0⟩
 · rename_i e
   split at h
   · rename_i e'
     obtain rfl:=zX1 h;exact⟨1,rfl,by decide,by rw[zY e,yA e'];exact S_1⟩
   · cases h
theorem zP5 (s:ByteArray) {W:World} (hW:SC W) (hz:s.size≤maxLen):Calls Tryz.prog 13 #[.string s] W (zN5 (unP s.data.toList) W):=by
 have hb0:Below W.heap.size W (W.alloc (.cells #[.slice none 0 0,.slice none 0 0] 25)):=(zI _ _).alloc (zR _) _;have h:Lv (fun w=>Bx w W.heap.size none 0 0 none 0 0∧Below W.heap.size W w) (W.alloc (.cells #[.slice none 0 0,.slice none 0 0] 25)):=⟨⟨Bx.new W _ _ _ _ _ _,hb0⟩⟩
 have KU:=zGl hz _ (hW.below hb0);rw[unB]at KU;have HY:=zC (fun q=>zO5 (l:=s.data.toList) q);generalize unP s.data.toList=r at*;generalize (if s.data.toList=[43]then(⟨#[48]⟩:ByteArray)else if s.data.toList=[42]then⟨#[49]⟩else⟨#[]⟩)=u at*;replace KU:=zC KU;clear hb0 hW hz;cases r with
 |none=>
  go_in;go_wp2_with fail
  with_reducible refine(yMf h KU.out).mono ?_
  clear h KU;rintro e w ⟨rfl,h⟩;have y0:=h.out.1.c0;have y3:=h.out.1.c1;have f0:=h.out.1.f 0;have f1:=h.out.1.f 1;go_wp2_with fail;have hR:=h.out.1.set none 0 0 none 0 0;have r0:=hR.c0;have r1:=hR.c1;exact zE (v:=.tuple #[.agg #[.slice none 0 0,.slice none 0 0],.bool false]) zPm rfl
   ⟨none,0,0,none,0,0,rfl,⟨Vl.none_ _,cp0,fun j hj=>absurd hj (Nat.not_lt_zero _),zDi⟩,yJ4 h.out.2 (zR _) _ _⟩
 |some q=>
  obtain⟨x,rfl,hx,hS⟩:=HY.out _ rfl;subst hS;have HX:Hid (Rok (some ([],[x]))):=zC ⟨(by decide:szE []=0),(rfl:((1:Nat):Int)=pr []),fun z hz=>by
   rw[zM]at hz;rw[hz];exact yF hx (xN yCn xBk)⟩
  clear hx HY;generalize hy:S x=y at*;have HS:=zC hy;clear hy;go_in;go_wp2_with fail
  with_reducible refine(yMf h KU.out).mono ?_
  clear h KU;rintro e w ⟨rfl,h⟩;have hA:Below w.heap.size w (w.alloc (.cells #[.string y] 9)):=(zI _ _).alloc (zR _) _;have hc:=yB0 _ _ 0 _ _ _ (yE w (.cells #[.string y] 9));replace h:=xVf h hA;have HC:=zC hc;clear hc hA;have y0:=h.out.1.c0;have y3:=h.out.1.c1;have f0:=h.out.1.f 0;have f1:=h.out.1.f 1;go_wp2_with fail;have hR:=h.out.1.set none 0 0 (some ⟨w.heap.size,0,none⟩) 1 1;have r0:=hR.c0;have r1:=hR.c1;have hV:=Vl.one HC.out;exact zE (v:=.tuple #[.agg #[.slice none 0 0,.slice (some ⟨w.heap.size,0,none⟩) 1 1],.bool true]) zPm rfl
   ⟨none,0,0,some ⟨w.heap.size,0,none⟩,1,1,rfl,⟨⟨h.out.1.sl hV.s _ _,by show St _ _ _ [S x];rw[HS.out];exact h.out.1.st hV.t _ _,hV.mm⟩,⟨zR _,by unfold maxLen;omega,zR _,by unfold maxLen;omega⟩,HX.out.sz rfl,HX.out.ais⟩,yJ4 h.out.2 (zR _) _ _⟩
end
section
open Go.RowKit
theorem zQ5 {P:World→Prop} {w w':World} (h:Lv P w) (hb:Below w.heap.size w w')
 (hs:Stb P:=by repeat' (first|exact Stb.bel _|exact Stb.bx|exact Av.stb2|refine Stb.and ?_ ?_|exact Stb.triv)):Lv P w':=⟨hs _ _ h.out hb⟩
theorem Av.ntt {W:World} {a b:Option Addr} {n c m d:Nat} {o:Option Ar} (h:Av W a n c b m d (TS o).1 (TS o).2 o):n≤1000000:=by
 cases o with
 |none=>have:=h.v.s.1;simp[TS]at this;omega
 |some q=>have:=h.n3;omega
theorem zR5 {a1 b1 a2 b2:Option Addr} {n1 c1 m1 d1 n2 c2 m2 d2:Nat} {l1 l2:List Int} {es1 es2:List ByteArray} {o1 o2:Option Ar} (W:World) (h1:Av W a1 n1 c1 b1 m1 d1 l1 es1 o1) (h2:Av W a2 n2 c2 b2 m2 d2 l2 es2 o2):
 Lv (fun w=>Bx w (W.heap.size+1) a2 n2 c2 b2 m2 d2∧Av w a2 n2 c2 b2 m2 d2 l2 es2 o2∧Bx w W.heap.size a1 n1 c1 b1 m1 d1∧Av w a1 n1 c1 b1 m1 d1 l1 es1 o1∧Below W.heap.size W w)
  ((W.alloc (.cells #[.slice a1 n1 c1,.slice b1 m1 d1] 25)).alloc (.cells #[.slice a2 n2 c2,.slice b2 m2 d2] 25)):=by
 have k2:=xEi (xHi W h1) (h2.on ((zI _ _).alloc (zR _) (.cells #[.slice a1 n1 c1,.slice b1 m1 d1] 25)));simp only[yP0]at k2;exact k2
end
section
open Go.RowKit
theorem zS5 {x y:Int} (hx:I64 x) (hy:I64 y):∀j,j<2→I64 (([x,y]:List Int).getD j 0):=by
 intro j hj;have h:j=0∨j=1:=by omega
 rcases h with rfl|rfl
 · exact hx
 · exact hy
theorem zT5 {x:Int} (h:x.natAbs<1000):tlI x=(some x,0):=yI3 (yF h (xN yCn xBk))
theorem zU5:yK3 [43] (some ([2],[1,2])) (some ([2],[3,4]))=(some ([2],[4,6]),0):=by
 have e:yK3 [43] (some ([2],[1,2])) (some ([2],[3,4]))=dyA 0 (some ([2],[1,2])) (some ([2],[3,4])):=yA yCn;have h1:dyI 0 1 3=(some 4,0):=zT5 yCn;have h2:dyI 0 2 4=(some 6,0):=zT5 yCn;rw[e,zRd yCn yCn];have ep:prs (nx [2]) (nx [2]) [1,2] [3,4] (prD (meV [2] [2])).toNat=[(1,3),(2,4)]:=by decide
 rw[ep];unfold spL;rw[h1];dsimp only
 unfold spL;rw[h2];dsimp only
 unfold spL;rfl
theorem zV5:yJ3 [43] (some ([],[1]))=(some ([],[1]),0):=by
 have e:yJ3 [43] (some ([],[1]))=fiM (some ([],[1])):=by simp[yJ3,kmL]
 rw[e];decide
theorem zW5 (w:World) (x y:Int):Sl (w.alloc (.cells #[.int .i64 x,.int .i64 y] 3)) (some ⟨w.heap.size,0,none⟩) 2 [x,y]:=Sl.row (l:=[x,y]) (yE _ _)
theorem zX5 (a:Option Addr) (x y:Int) (W:World) (h:Sl W a 2 [x,y]) (hi:∀j,j<2→I64 (([x,y]:List Int).getD j 0)) (ht:WT W):Calls Tryz.prog 17 #[.slice a 2 2] W (yIb [2] ([x,y].map S) W):=yXc a 2 2 [x,y] W h hi yEn ht
theorem zY5 (W:World):Calls Tryz.prog 18 #[.string ⟨#[49]⟩] W (yIb [] ([1].map S) W):=by
 rw[show([1]:List Int).map S=[⟨#[49]⟩]by simp[S_1]];exact yYc _ W
theorem zZ5 (W:World) (hW:PW W):Calls Tryz.prog 7 #[] W (xEk W):=by
 have hA:Below W.heap.size W (W.alloc (.cells #[.int .i64 1,.int .i64 2] 3)):=(zI _ _).alloc (zR _) _;have h:Lv (fun w=>Below W.heap.size W w) (W.alloc (.cells #[.int .i64 1,.int .i64 2] 3)):=⟨hA⟩
 have KW:=zC (fun w (hb:Below W.heap.size W w)=>hW.below hb);have i1:=zS5 (x:=1) (y:=2) yCn yCn;have i2:=zS5 (x:=3) (y:=4) yCn yCn;have K1:=zC (zX5 _ 1 2 _ (zW5 W 1 2) i1 (KW.out _ hA).wt);have R1:Rok (some ([2],[1,2])):=zDg (t:=2) yEn rfl (fun x hx=>zEg zMn);have R2:Rok (some ([2],[3,4])):=zDg (t:=2) yEn rfl (fun x hx=>zEg zMn);have R3:Rok (some ([2],[4,6])):=zDg (t:=2) yEn rfl (fun x hx=>zEg zMn);have R4:Rok (some ([],[1])):=⟨(by decide:szE []=0),(rfl:((1:Nat):Int)=pr []),fun x hx=>zEg zMn⟩
 have KSC:=zC zY5;clear hW hA;go_in;go_wp2_with fail
 with_reducible refine(xGi h (⟨K1.out,R1⟩)).mono ?_
 clear h;rintro e w ⟨ae,ne,ce,be,me,de,rfl,h⟩;obtain⟨wu,hwu⟩:∃z,z=w:=⟨_,rfl⟩
 subst hwu;have hA:Below wu.heap.size wu (wu.alloc (.cells #[.int .i64 3,.int .i64 4] 3)):=(zI _ _).alloc (zR _) _;replace h:=zQ5 h hA;have K2:=zC (zX5 _ 3 4 _ (zW5 wu 3 4) i2 (KW.out _ h.out.2).wt);clear hA K1;go_wp2_with fail
 with_reducible refine(xGi h (⟨K2.out,R2⟩)).mono ?_
 clear h;rintro e w ⟨af,nf,cf,bf,mf,df,rfl,h⟩;have HI:=zM5 (s:=⟨#[43]⟩) h.out.2.1 h.out.1 (KW.out _ h.out.2.2) yCn;rw[zU5]at HI;go_wp2_with fail
 with_reducible refine(xFi h (HI)).mono ?_
 clear h;rintro e w ⟨au,nu,cu,bu,mu,du,rfl,h⟩;obtain⟨wu,hwu⟩:∃z,z=w:=⟨_,rfl⟩
 subst hwu;generalize hwz:wu.alloc (.cells #[.slice au nu cu,.slice bu mu du] 25)=wz at*;go_wp2_with fail
 with_reducible refine(xGi h (⟨KSC.out _,R4⟩)).mono ?_
 clear h;rintro e w ⟨aj,nj,cj,bj,mj,dj,rfl,h⟩;have HJ:=zG5 (s:=⟨#[43]⟩) h.out.1 (KW.out _ h.out.2.2.2.2.2) yCn;rw[zV5]at HJ;go_wp2_with fail
 with_reducible refine(xFi h (HJ)).mono ?_
 clear h;rintro e w ⟨av,nv,cv,bv,mv,dv,rfl,h⟩;obtain⟨wv,hwv⟩:∃z,z=w:=⟨_,rfl⟩
 subst hwv;generalize hwy:wv.alloc (.cells #[.slice av nv cv,.slice bv mv dv] 25)=wy at*;have xu:=h.out.2.2.2.1.c0;have yu:=h.out.2.2.2.1.c1;have xv:=h.out.1.c0;have yv:=h.out.1.c1;have lu:=h.out.2.2.2.1.lt;have lv:=h.out.1.lt;have i3:=zS5 (x:=4) (y:=6) yCn yCn;have Q1:Hid (∀z g,Below wy.heap.size wy z→z.heap[g]?=some (.cells #[.int .i64 4,.int .i64 6] 3 (0,0))→Calls Tryz.prog 17 #[.slice (some ⟨g,0,none⟩) 2 2] z fun e w'=>∃a n c b m d,e=.returned (.agg #[.slice a n c,.slice b m d])∧Av w' a n c b m d [2] ([4,6].map S) (some ([2],[4,6]))∧Below wy.heap.size wy w'∧Below z.heap.size z w'):=zC (fun z g hz hg=>(zX5 (some ⟨g,0,none⟩) _ _ z (Sl.row (l:=[4,6]) hg) i3 (KW.out z (h.out.2.2.2.2.2.2.2.trans (hz.mono h.out.2.2.2.2.2.2.2.size))).wt).mono fun e w' (h:yIb _ _ _ _ _)=>by
  obtain⟨a,n,c,b,m,d,h1,h2,h3,h4⟩:=h;exact⟨a,n,c,b,m,d,h1,Av.pt (q:=([2],[4,6])) h2 h3 R3,hz.trans (h4.mono hz.size),h4⟩)
 have Q2:Hid (∀z a0 n0 c0 b0 m0 d0,Below wy.heap.size wy z→Av z a0 n0 c0 b0 m0 d0 [2] ([4,6].map S) (some ([2],[4,6]))→Calls Tryz.prog 15 #[.agg #[.slice au nu cu,.slice bu mu du],.agg #[.slice a0 n0 c0,.slice b0 m0 d0]] z fun e w'=>e=.returned (.bool true)∧Below wy.heap.size wy w'):=zC (fun z a0 n0 c0 b0 m0 d0 hz hv=>(xIi (h.out.2.2.2.2.1.v.below hz) hv.v (by have:=h.out.2.2.2.2.1.n3;omega) (by have:=hv.n3;omega) rfl rfl).mono fun e w' k=>⟨k.1,hz.trans (k.2.mono hz.size)⟩);have Q3:Hid (∀z,Below wy.heap.size wy z→Calls Tryz.prog 18 #[.string ⟨#[49]⟩] z fun e w'=>∃a n c b m d,e=.returned (.agg #[.slice a n c,.slice b m d])∧Av w' a n c b m d [] ([1].map S) (some ([],[1]))∧Below wy.heap.size wy w'∧Below z.heap.size z w'):=zC (fun z hz=>(KSC.out z).mono fun e w' (h:yIb _ _ _ _ _)=>by
  obtain⟨a,n,c,b,m,d,h1,h2,h3,h4⟩:=h;exact⟨a,n,c,b,m,d,h1,Av.pt (q:=([],[1])) h2 h3 R4,hz.trans (h4.mono hz.size),h4⟩)
 have Q4:Hid (∀z a0 n0 c0 b0 m0 d0,Below wy.heap.size wy z→Av z a0 n0 c0 b0 m0 d0 [] ([1].map S) (some ([],[1]))→Calls Tryz.prog 15 #[.agg #[.slice av nv cv,.slice bv mv dv],.agg #[.slice a0 n0 c0,.slice b0 m0 d0]] z fun e w'=>e=.returned (.bool true)∧Below wy.heap.size wy w'):=zC (fun z a0 n0 c0 b0 m0 d0 hz hv=>(xIi (h.out.2.1.v.below hz) hv.v (by have:=h.out.2.1.n3;omega) (by have:=hv.n3;omega) rfl rfl).mono fun e w' k=>⟨k.1,hz.trans (k.2.mono hz.size)⟩);have HB:=zC h.out.2.2.2.2.2.2.2;have hq:Below wy.heap.size wy wy:=zI _ _;have hqz:=hq.size;go_upto_region 3 with fail
 clear h hwz hwy K2 HI HJ;go_region_held3 (fun w'=>w'.cell? ⟨wu.heap.size,0,none⟩=some (.slice au nu cu)∧w'.cell? ⟨wu.heap.size,1,none⟩=some (.slice bu mu du)∧w'.cell? ⟨wv.heap.size,0,none⟩=some (.slice av nv cv)∧w'.cell? ⟨wv.heap.size,1,none⟩=some (.slice bv mv dv))
  (first|exact⟨(zA0 (p:=⟨wu.heap.size,0,none⟩) xJl lu).trans xu,(zA0 (p:=⟨wu.heap.size,1,none⟩) xJl lu).trans yu,(zA0 (p:=⟨wv.heap.size,0,none⟩) xJl lv).trans xv,(zA0 (p:=⟨wv.heap.size,1,none⟩) xJl lv).trans yv⟩|fail)
  (first
    |(go_at_call 17;(with_reducible refine(Q1.out _ _ xJl (by first|exact yE _ _|exact xJi _ _|exact xKi _ _ _|exact xLi _ _ _|exact xMi _ _ _|exact xNi _ _ _|exact xOi _ _ _|exact xPi _ _ _|exact xQi _ _ _|exact xRi _ _ _)).mono ?_);rintro e wa ⟨ai,ni,ci,bi,mi,di,rfl,hav,hq,hr⟩;have hqz:=hq.size)
    |(go_at_call 15;(with_reducible refine(Q2.out _ _ _ _ _ _ _ xJl (by first|exact hav|exact hav.on xOl)).mono ?_);rintro e wb ⟨rfl,hq⟩;have hqz:=hq.size)
    |(go_at_call 18;(with_reducible refine(Q3.out _ xJl).mono ?_);rintro e wa ⟨ai,ni,ci,bi,mi,di,rfl,hbv,hq,hr⟩;have hqz:=hq.size)
    |(go_at_call 15;(with_reducible refine(Q4.out _ _ _ _ _ _ _ xJl (by first|exact hbv|exact hbv.on xOl)).mono ?_);rintro e wb ⟨rfl,hq⟩;have hqz:=hq.size)
    |fail)
 all_goals
  go_wp2_with fail;go_ret;exact⟨rfl,HB.out.trans (Below.mono xJl HB.out.size)⟩
end
section
open Go.RowKit
theorem yA5 {s:ByteArray} {x:Int} (h:Is s (some x)):(s.toList==[48])=decide (x=0):=by
 by_cases hx:x=0
 · subst hx
   rw[h.1,S_0,xAe];rfl
 · rw[yG0 hx]
   refine zT0.2 fun e=>hx ?_;have h2:s=⟨#[48]⟩:=toList_inj (by rw[e,xAe]);exact zZ6 (by rw[←h.1,h2,S_0])
end
end Go.Proofs.YtcfbjdplhgdpfaaGreatDoor

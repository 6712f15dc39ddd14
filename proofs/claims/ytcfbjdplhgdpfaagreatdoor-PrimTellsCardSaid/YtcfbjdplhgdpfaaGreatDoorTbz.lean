import Derived.Test.YtcfbjdplhgdpfaaGreatDoorTbv
import Derived.Test.YtcfbjdplhgdpfaaGreatDoorTbw
import Derived.Test.YtcfbjdplhgdpfaaGreatDoorTbx
import Derived.Test.YtcfbjdplhgdpfaaGreatDoorTby
import Derived.Test.YtcfbjdplhgdpfaaGreatDoorRows
import Derived.LaidMore
import Derived.Stop.LaidErr
import Derived.Stop.Joined
import Derived.Lib.SmallJoins
set_option maxHeartbeats 6400000
set_option maxRecDepth 100000
namespace Go.Proofs.YtcfbjdplhgdpfaaGreatDoor
set_option linter.unusedVariables false
set_option linter.unusedSimpArgs false
theorem xCm {P:Prop}(h:P:=by simp[results,Tryz.results14,go_sem]):P:=h
theorem zYm {P:Prop}(h:P:=by simp[results,Tryz.results12,go_sem,r0,r1]):P:=h
theorem zXm {P:Prop}(h:P:=by simp[results,Tryz.results10,go_sem,r0,r1]):P:=h
section
open Go.RowKit
def zIc (r:Option Ar×Int):World→Ending→World→Prop:=zLk (TS r.1).1 (TS r.1).2 r.2
theorem zJc {r:Option Ar×Int} {W w:World} {e:Ending} (h:xL3 r W e w):zIc r W e w:=by
 obtain⟨a,n,c,b,m,d,rfl,hv,hb⟩:=h;refine⟨a,n,c,b,m,d,rfl,hv.v,?_,hb⟩;obtain⟨x,k⟩:=r;cases x with
 |none=>have:=hv.v.s.1;simp[TS]at this;omega
 |some q=>have:=hv.n3;omega
theorem zKc {W w:World} {g n0 c0 m0 d0:Nat} {a0 b0 a b:Option Addr} {n c m d:Nat} {r:Option Ar×Int} (h:Bx w g a0 n0 c0 b0 m0 d0) (hb:Below W.heap.size W w) (hg:W.heap.size≤g) (hv:Vl w a n b m (TS r.1).1 (TS r.1).2) (hn:n≤20):
 zIc r W (.returned (.tuple #[.agg #[.slice a n c,.slice b m d],.int .i64 r.2])) ((w.setCell ⟨g,0,none⟩ (.slice a n c)).setCell ⟨g,1,none⟩ (.slice b m d)):=
 ⟨a,n,c,b,m,d,rfl,⟨h.sl hv.s _ _,h.st hv.t _ _,hv.mm⟩,hn,yJ4 hb hg _ _⟩
theorem zLc {a1 b1:Option Addr} {n1 c1 m1 d1:Nat} {W:World} {s:ByteArray} {f:Nat} {r:Option Ar×Int} (hf:s=⟨#[33]⟩∧f=21∨s=⟨#[35]⟩∧f=22∨s=⟨#[61]⟩∧f=23∨s=⟨#[44]⟩∧f=24∨s=⟨#[124]⟩∧f=25∨s=⟨#[43]⟩∧f=26∨s=⟨#[60]⟩∧f=27∨s=⟨#[62]⟩∧f=28∨s=⟨#[38]⟩∧f=29∨s=⟨#[63]⟩∧f=30) (hc:∀w,Below W.heap.size W w→Calls Tryz.prog f #[.agg #[.slice a1 n1 c1,.slice b1 m1 d1]] w (zIc r w)):
 Calls Tryz.prog 10 #[.string s,.agg #[.slice a1 n1 c1,.slice b1 m1 d1]] W (zIc r W):=by
 have h:=xO3 W a1 n1 c1 b1 m1 d1;rcases hf with⟨rfl,rfl⟩|⟨rfl,rfl⟩|⟨rfl,rfl⟩|⟨rfl,rfl⟩|⟨rfl,rfl⟩|⟨rfl,rfl⟩|⟨rfl,rfl⟩|⟨rfl,rfl⟩|⟨rfl,rfl⟩|⟨rfl,rfl⟩
 all_goals
  have KC:=zC hc;clear hc;go_in;have x1:=h.out.2.1.c0;have y1:=h.out.2.1.c1;go_wp2_with fail;refine(KC.out _ h.out.2.2).mono ?_;rintro e w2 ⟨ar,nr,cr,br,mr,dr,rfl,hv,hn,hq⟩;replace h:=xVf h hq;have HV:=zC (And.intro hv hn);clear hv hn hq x1 y1;have y0:=h.out.1.c0;have y3:=h.out.1.c1;have f0:=h.out.1.f 0;have f1:=h.out.1.f 1;go_wp2_with fail;have hR:=h.out.1.set ar nr cr br mr dr;have r0:=hR.c0;have r1:=hR.c1;exact zE (v:=.tuple #[.agg #[.slice ar nr cr,.slice br mr dr],.int .i64 r.2]) zXm rfl (zKc (r:=r) h.out.1 h.out.2.2 yEn HV.out.1 HV.out.2)
theorem zMc {a1 b1:Option Addr} {n1 c1 m1 d1:Nat} {W:World} {s:ByteArray} {r:Option Ar×Int} (hf:s=⟨#[45]⟩∨s=⟨#[126]⟩∨s=⟨#[42]⟩) (hc:∀w,Below W.heap.size W w→Calls Tryz.prog 20 #[.string s,.agg #[.slice a1 n1 c1,.slice b1 m1 d1]] w (zIc r w)):
 Calls Tryz.prog 10 #[.string s,.agg #[.slice a1 n1 c1,.slice b1 m1 d1]] W (zIc r W):=by
 have h:=xO3 W a1 n1 c1 b1 m1 d1;rcases hf with rfl|rfl|rfl
 all_goals
  have KC:=zC hc;clear hc;go_in;have x1:=h.out.2.1.c0;have y1:=h.out.2.1.c1;go_wp2_with fail;refine(KC.out _ h.out.2.2).mono ?_;rintro e w2 ⟨ar,nr,cr,br,mr,dr,rfl,hv,hn,hq⟩;replace h:=xVf h hq;have HV:=zC (And.intro hv hn);clear hv hn hq x1 y1;have y0:=h.out.1.c0;have y3:=h.out.1.c1;have f0:=h.out.1.f 0;have f1:=h.out.1.f 1;go_wp2_with fail;have hR:=h.out.1.set ar nr cr br mr dr;have r0:=hR.c0;have r1:=hR.c1;exact zE (v:=.tuple #[.agg #[.slice ar nr cr,.slice br mr dr],.int .i64 r.2]) zXm rfl (zKc (r:=r) h.out.1 h.out.2.2 yEn HV.out.1 HV.out.2)
theorem zNc {a1 b1:Option Addr} {n1 c1 m1 d1:Nat} {W:World} {s:ByteArray} (e0:¬s.data.toList=[33]) (e1:¬s.data.toList=[35]) (e2:¬s.data.toList=[61]) (e3:¬s.data.toList=[44]) (e4:¬s.data.toList=[124]) (e5:¬s.data.toList=[43]) (e6:¬s.data.toList=[60]) (e7:¬s.data.toList=[62]) (e8:¬s.data.toList=[38]) (e9:¬s.data.toList=[63]) (e10:¬s.data.toList=[45]) (e11:¬s.data.toList=[126]) (e12:¬s.data.toList=[42]):Calls Tryz.prog 10 #[.string s,.agg #[.slice a1 n1 c1,.slice b1 m1 d1]] W (zIc (none,1) W):=by
 have h:=xO3 W a1 n1 c1 b1 m1 d1;rw[←xAe]at e0 e1 e2 e3 e4 e5 e6 e7 e8 e9 e10 e11 e12;have q0:=xM1 e0;have q1:=xM1 e1;have q2:=xM1 e2;have q3:=xM1 e3;have q4:=xM1 e4;have q5:=xM1 e5;have q6:=xM1 e6;have q7:=xM1 e7;have q8:=xM1 e8;have q9:=xM1 e9;have q10:=xM1 e10;have q11:=xM1 e11;have q12:=xM1 e12;go_in;have y0:=h.out.1.c0;have y3:=h.out.1.c1;have f0:=h.out.1.f 0;have f1:=h.out.1.f 1;go_wp2_with fail;exact zE (v:=.tuple #[.agg #[.slice none 0 0,.slice none 0 0],.int .i64 1]) (by simp[results,Tryz.results10,go_sem,y0,y3]) rfl ⟨none,0,0,none,0,0,rfl,Vl.none_ _,by omega,h.out.2.2⟩
theorem zOc {s:ByteArray} {a1 b1:Option Addr} {n1 c1 m1 d1:Nat} {W:World} {l:List Int} {es:List ByteArray} {o:Option Ar} (h1:Av W a1 n1 c1 b1 m1 d1 l es o):Calls Tryz.prog 10 #[.string s,.agg #[.slice a1 n1 c1,.slice b1 m1 d1]] W (zIc (yJ3 s.data.toList o) W):=by
 by_cases e0:s.data.toList=[33]
 · obtain rfl:s=⟨#[33]⟩:=xTd e0
   exact zLc (f:=21) yHn fun w hb=>(zD3 (h1.below hb)).mono fun _ _ h=>zJc h
 by_cases e1:s.data.toList=[35]
 · obtain rfl:s=⟨#[35]⟩:=xTd e1
   exact zLc (f:=22) yHn fun w hb=>(zI3 (h1.below hb)).mono fun _ _ h=>zJc h
 by_cases e2:s.data.toList=[61]
 · obtain rfl:s=⟨#[61]⟩:=xTd e2
   exact zLc (f:=23) yHn fun w hb=>(zM3 (h1.below hb)).mono fun _ _ h=>zJc h
 by_cases e3:s.data.toList=[44]
 · obtain rfl:s=⟨#[44]⟩:=xTd e3
   exact zLc (f:=24) yHn fun w hb=>(zP3 (h1.below hb)).mono fun _ _ h=>zJc h
 by_cases e4:s.data.toList=[124]
 · obtain rfl:s=⟨#[124]⟩:=xTd e4
   exact zLc (f:=25) yHn fun w hb=>(xQe (h1.below hb)).mono fun _ _ h=>zJc h
 by_cases e5:s.data.toList=[43]
 · obtain rfl:s=⟨#[43]⟩:=xTd e5
   exact zLc (f:=26) yHn fun w hb=>(xYe (h1.below hb)).mono fun _ _ h=>zJc h
 by_cases e6:s.data.toList=[60]
 · obtain rfl:s=⟨#[60]⟩:=xTd e6
   exact zLc (f:=27) yHn fun w hb=>(zYa (h1.below hb)).mono fun _ _ h=>zJc h
 by_cases e7:s.data.toList=[62]
 · obtain rfl:s=⟨#[62]⟩:=xTd e7
   exact zLc (f:=28) yHn fun w hb=>(zZa (h1.below hb)).mono fun _ _ h=>zJc h
 by_cases e8:s.data.toList=[38]
 · obtain rfl:s=⟨#[38]⟩:=xTd e8
   exact zLc (f:=29) yHn fun w hb=>(yQg (h1.below hb)).mono fun _ _ h=>zJc h
 by_cases e9:s.data.toList=[63]
 · obtain rfl:s=⟨#[63]⟩:=xTd e9
   exact zLc (f:=30) yHn fun w hb=>(yYg (h1.below hb)).mono fun _ _ h=>zJc h
 by_cases e10:s.data.toList=[45]
 · obtain rfl:s=⟨#[45]⟩:=xTd e10
   exact zMc yHn fun w hb=>yNh _ (h1.below hb).v h1.z h1.i
 by_cases e11:s.data.toList=[126]
 · obtain rfl:s=⟨#[126]⟩:=xTd e11
   exact zMc yHn fun w hb=>yNh _ (h1.below hb).v h1.z h1.i
 by_cases e12:s.data.toList=[42]
 · obtain rfl:s=⟨#[42]⟩:=xTd e12
   exact zMc yHn fun w hb=>yNh _ (h1.below hb).v h1.z h1.i
 rw[show yJ3 s.data.toList o=(none,1)by simp[yJ3,kmL,e0,e1,e2,e3,e4,e5,e6,e7,e8,e9,e10,e11,e12]];exact zNc e0 e1 e2 e3 e4 e5 e6 e7 e8 e9 e10 e11 e12
theorem zPc {a1 b1 a2 b2:Option Addr} {n1 c1 m1 d1 n2 c2 m2 d2:Nat} {W:World} {s:ByteArray} {f:Nat} {r:Option Ar×Int} (hf:s=⟨#[35]⟩∧f=32∨s=⟨#[94]⟩∧f=33∨s=⟨#[36]⟩∧f=34∨s=⟨#[44]⟩∧f=35∨s=⟨#[63]⟩∧f=36∨s=⟨#[64]⟩∧f=37) (hc:∀w,Below W.heap.size W w→Calls Tryz.prog f #[.agg #[.slice a1 n1 c1,.slice b1 m1 d1],.agg #[.slice a2 n2 c2,.slice b2 m2 d2]] w (zIc r w)):
 Calls Tryz.prog 12 #[.string s,.agg #[.slice a1 n1 c1,.slice b1 m1 d1],.agg #[.slice a2 n2 c2,.slice b2 m2 d2]] W (zIc r W):=by
 have h:=xP3 W a1 n1 c1 b1 m1 d1 a2 n2 c2 b2 m2 d2;rcases hf with⟨rfl,rfl⟩|⟨rfl,rfl⟩|⟨rfl,rfl⟩|⟨rfl,rfl⟩|⟨rfl,rfl⟩|⟨rfl,rfl⟩
 all_goals
  have KC:=zC hc;clear hc;go_in;have x1:=h.out.2.2.1.c0;have y1:=h.out.2.2.1.c1;have x2:=h.out.2.1.c0;have y2:=h.out.2.1.c1;go_wp2_with fail;refine(KC.out _ h.out.2.2.2).mono ?_;rintro e w2 ⟨ar,nr,cr,br,mr,dr,rfl,hv,hn,hq⟩;replace h:=xVf h hq;have HV:=zC (And.intro hv hn);clear hv hn hq x1 y1 x2 y2;have y0:=h.out.1.c0;have y3:=h.out.1.c1;have f0:=h.out.1.f 0;have f1:=h.out.1.f 1;go_wp2_with fail;have hR:=h.out.1.set ar nr cr br mr dr;have r0:=hR.c0;have r1:=hR.c1;exact zE (v:=.tuple #[.agg #[.slice ar nr cr,.slice br mr dr],.int .i64 r.2]) zYm rfl (zKc (r:=r) h.out.1 h.out.2.2.2 yEn HV.out.1 HV.out.2)
theorem zQc {a1 b1 a2 b2:Option Addr} {n1 c1 m1 d1 n2 c2 m2 d2:Nat} {W:World} {s:ByteArray} {r:Option Ar×Int} (hf:s=⟨#[43]⟩∨s=⟨#[45]⟩∨s=⟨#[42]⟩∨s=⟨#[37]⟩∨s=⟨#[33]⟩∨s=⟨#[38]⟩∨s=⟨#[124]⟩∨s=⟨#[60]⟩∨s=⟨#[62]⟩∨s=⟨#[61]⟩∨s=⟨#[126]⟩) (hc:∀w,Below W.heap.size W w→Calls Tryz.prog 39 #[.string s,.agg #[.slice a1 n1 c1,.slice b1 m1 d1],.agg #[.slice a2 n2 c2,.slice b2 m2 d2]] w (zIc r w)):
 Calls Tryz.prog 12 #[.string s,.agg #[.slice a1 n1 c1,.slice b1 m1 d1],.agg #[.slice a2 n2 c2,.slice b2 m2 d2]] W (zIc r W):=by
 have h:=xP3 W a1 n1 c1 b1 m1 d1 a2 n2 c2 b2 m2 d2;have KO:=fun w=>xM5 s w;rw[show decide (kdL s.data.toList<11)=true by rcases hf with rfl|rfl|rfl|rfl|rfl|rfl|rfl|rfl|rfl|rfl|rfl<;>rfl]at KO;replace KO:=zC KO;rcases hf with rfl|rfl|rfl|rfl|rfl|rfl|rfl|rfl|rfl|rfl|rfl
 all_goals
  have KC:=zC hc;clear hc;go_in;have x1:=h.out.2.2.1.c0;have y1:=h.out.2.2.1.c1;have x2:=h.out.2.1.c0;have y2:=h.out.2.1.c1;go_wp2_with fail;refine(KO.out _).mono ?_;rintro e w1 ⟨rfl,rfl⟩;go_wp2_with fail;refine(KC.out _ h.out.2.2.2).mono ?_;rintro e w2 ⟨ar,nr,cr,br,mr,dr,rfl,hv,hn,hq⟩;replace h:=xVf h hq;have HV:=zC (And.intro hv hn);clear hv hn hq x1 y1 x2 y2;have y0:=h.out.1.c0;have y3:=h.out.1.c1;have f0:=h.out.1.f 0;have f1:=h.out.1.f 1;go_wp2_with fail;have hR:=h.out.1.set ar nr cr br mr dr;have r0:=hR.c0;have r1:=hR.c1;exact zE (v:=.tuple #[.agg #[.slice ar nr cr,.slice br mr dr],.int .i64 r.2]) zYm rfl (zKc (r:=r) h.out.1 h.out.2.2.2 yEn HV.out.1 HV.out.2)
theorem zRc {a1 b1 a2 b2:Option Addr} {n1 c1 m1 d1 n2 c2 m2 d2:Nat} {W:World} {s:ByteArray} (e0:¬s.data.toList=[35]) (e1:¬s.data.toList=[94]) (e2:¬s.data.toList=[36]) (e3:¬s.data.toList=[44]) (e4:¬s.data.toList=[63]) (e5:¬s.data.toList=[64]) (e6:¬s.data.toList=[43]) (e7:¬s.data.toList=[45]) (e8:¬s.data.toList=[42]) (e9:¬s.data.toList=[37]) (e10:¬s.data.toList=[33]) (e11:¬s.data.toList=[38]) (e12:¬s.data.toList=[124]) (e13:¬s.data.toList=[60]) (e14:¬s.data.toList=[62]) (e15:¬s.data.toList=[61]) (e16:¬s.data.toList=[126]):Calls Tryz.prog 12 #[.string s,.agg #[.slice a1 n1 c1,.slice b1 m1 d1],.agg #[.slice a2 n2 c2,.slice b2 m2 d2]] W (zIc (none,1) W):=by
 have h:=xP3 W a1 n1 c1 b1 m1 d1 a2 n2 c2 b2 m2 d2;have KO:=fun w=>xM5 s w;rw[show decide (kdL s.data.toList<11)=false by simp[kdL,e6,e7,e8,e9,e10,e11,e12,e13,e14,e15,e16]]at KO;replace KO:=zC KO;rw[←xAe]at e0 e1 e2 e3 e4 e5 e6 e7 e8 e9 e10 e11 e12 e13 e14 e15 e16;have q0:=xM1 e0;have q1:=xM1 e1;have q2:=xM1 e2;have q3:=xM1 e3;have q4:=xM1 e4;have q5:=xM1 e5;have q6:=xM1 e6;have q7:=xM1 e7;have q8:=xM1 e8;have q9:=xM1 e9;have q10:=xM1 e10;have q11:=xM1 e11;have q12:=xM1 e12;have q13:=xM1 e13;have q14:=xM1 e14;have q15:=xM1 e15;have q16:=xM1 e16;go_in;go_wp2_with fail;refine(KO.out _).mono ?_;rintro e w1 ⟨rfl,rfl⟩;have y0:=h.out.1.c0;have y3:=h.out.1.c1;have f0:=h.out.1.f 0;have f1:=h.out.1.f 1;go_wp2_with fail;exact zE (v:=.tuple #[.agg #[.slice none 0 0,.slice none 0 0],.int .i64 1]) (by simp[results,Tryz.results12,go_sem,y0,y3]) rfl ⟨none,0,0,none,0,0,rfl,Vl.none_ _,by omega,h.out.2.2.2⟩
theorem zSc {s:ByteArray} {a1 b1 a2 b2:Option Addr} {n1 c1 m1 d1 n2 c2 m2 d2:Nat} {W:World} {l m:List Int} {es fs:List ByteArray} {o p:Option Ar} (h1:Av W a1 n1 c1 b1 m1 d1 l es o) (h2:Av W a2 n2 c2 b2 m2 d2 m fs p):Calls Tryz.prog 12 #[.string s,.agg #[.slice a1 n1 c1,.slice b1 m1 d1],.agg #[.slice a2 n2 c2,.slice b2 m2 d2]] W (zIc (yK3 s.data.toList o p) W):=by
 by_cases e0:s.data.toList=[35]
 · obtain rfl:s=⟨#[35]⟩:=xTd e0
   exact zPc (f:=32) yHn fun w hb=>(yA8 (h1.below hb) (h2.below hb)).mono fun _ _ h=>zJc h
 by_cases e1:s.data.toList=[94]
 · obtain rfl:s=⟨#[94]⟩:=xTd e1
   exact zPc (f:=33) yHn fun w hb=>(xPd (h1.below hb) (h2.below hb)).mono fun _ _ h=>zJc h
 by_cases e2:s.data.toList=[36]
 · obtain rfl:s=⟨#[36]⟩:=xTd e2
   exact zPc (f:=34) yHn fun w hb=>(xQd (h1.below hb) (h2.below hb)).mono fun _ _ h=>zJc h
 by_cases e3:s.data.toList=[44]
 · obtain rfl:s=⟨#[44]⟩:=xTd e3
   exact zPc (f:=35) yHn fun w hb=>(xBh (h1.below hb) (h2.below hb)).mono fun _ _ h=>zJc h
 by_cases e4:s.data.toList=[63]
 · obtain rfl:s=⟨#[63]⟩:=xTd e4
   exact zPc (f:=36) yHn fun w hb=>(xIg (h1.below hb) (h2.below hb)).mono fun _ _ h=>zJc h
 by_cases e5:s.data.toList=[64]
 · obtain rfl:s=⟨#[64]⟩:=xTd e5
   exact zPc (f:=37) yHn fun w hb=>(yE3 (h1.below hb) (h2.below hb)).mono fun _ _ h=>zJc h
 by_cases e6:s.data.toList=[43]
 · obtain rfl:s=⟨#[43]⟩:=xTd e6
   exact zQc yHn fun w hb=>zUk _ (h1.below hb).v (h2.below hb).v h1.z h2.z h1.i h2.i
 by_cases e7:s.data.toList=[45]
 · obtain rfl:s=⟨#[45]⟩:=xTd e7
   exact zQc yHn fun w hb=>zUk _ (h1.below hb).v (h2.below hb).v h1.z h2.z h1.i h2.i
 by_cases e8:s.data.toList=[42]
 · obtain rfl:s=⟨#[42]⟩:=xTd e8
   exact zQc yHn fun w hb=>zUk _ (h1.below hb).v (h2.below hb).v h1.z h2.z h1.i h2.i
 by_cases e9:s.data.toList=[37]
 · obtain rfl:s=⟨#[37]⟩:=xTd e9
   exact zQc yHn fun w hb=>zUk _ (h1.below hb).v (h2.below hb).v h1.z h2.z h1.i h2.i
 by_cases e10:s.data.toList=[33]
 · obtain rfl:s=⟨#[33]⟩:=xTd e10
   exact zQc yHn fun w hb=>zUk _ (h1.below hb).v (h2.below hb).v h1.z h2.z h1.i h2.i
 by_cases e11:s.data.toList=[38]
 · obtain rfl:s=⟨#[38]⟩:=xTd e11
   exact zQc yHn fun w hb=>zUk _ (h1.below hb).v (h2.below hb).v h1.z h2.z h1.i h2.i
 by_cases e12:s.data.toList=[124]
 · obtain rfl:s=⟨#[124]⟩:=xTd e12
   exact zQc yHn fun w hb=>zUk _ (h1.below hb).v (h2.below hb).v h1.z h2.z h1.i h2.i
 by_cases e13:s.data.toList=[60]
 · obtain rfl:s=⟨#[60]⟩:=xTd e13
   exact zQc yHn fun w hb=>zUk _ (h1.below hb).v (h2.below hb).v h1.z h2.z h1.i h2.i
 by_cases e14:s.data.toList=[62]
 · obtain rfl:s=⟨#[62]⟩:=xTd e14
   exact zQc yHn fun w hb=>zUk _ (h1.below hb).v (h2.below hb).v h1.z h2.z h1.i h2.i
 by_cases e15:s.data.toList=[61]
 · obtain rfl:s=⟨#[61]⟩:=xTd e15
   exact zQc yHn fun w hb=>zUk _ (h1.below hb).v (h2.below hb).v h1.z h2.z h1.i h2.i
 by_cases e16:s.data.toList=[126]
 · obtain rfl:s=⟨#[126]⟩:=xTd e16
   exact zQc yHn fun w hb=>zUk _ (h1.below hb).v (h2.below hb).v h1.z h2.z h1.i h2.i
 rw[show yK3 s.data.toList o p=(none,1)by simp[yK3,kdL,e0,e1,e2,e3,e4,e5,e6,e7,e8,e9,e10,e11,e12,e13,e14,e15,e16]];exact zRc e0 e1 e2 e3 e4 e5 e6 e7 e8 e9 e10 e11 e12 e13 e14 e15 e16
def zTc (r:Option Ar) (W:World) (e:Ending) (W':World):Prop:=
 ∃a n c b m d,e=.returned (.tuple #[.agg #[.slice a n c,.slice b m d],.bool r.isSome])∧(Vl W' a n b m (TS r).1 (TS r).2∧n≤20)∧Below W.heap.size W W'
theorem zUc {x:Int} {y:ByteArray} (hS:S x=y) (W:World):zTc (some ([],[x])) W (.returned (.tuple #[.agg #[.slice none 0 0,.slice (some ⟨W.heap.size+1,0,none⟩) 1 1],.bool true])) ((W.alloc (.cells #[.slice none 0 0,.slice (some ⟨W.heap.size+1,0,none⟩) 1 1] 25)).alloc (.cells #[.string y] 9)):=by
 have hc:=yB0 _ _ 0 _ _ _ (yE (W.alloc (.cells #[.slice none 0 0,.slice (some ⟨W.heap.size+1,0,none⟩) 1 1] 25)) (.cells #[.string y] 9));rw[show(W.alloc (.cells #[.slice none 0 0,.slice (some ⟨W.heap.size+1,0,none⟩) 1 1] 25)).heap.size=W.heap.size+1 by simp]at hc;exact⟨none,0,0,some ⟨W.heap.size+1,0,none⟩,1,1,rfl,⟨by show Vl _ _ _ _ _ [] [S x];rw[hS];exact Vl.one hc,by omega⟩,((zI _ _).alloc (zR _) _).alloc yHn _⟩
theorem zVc (s:ByteArray) {W:World}:Calls Tryz.prog 14 #[.string s] W (zTc (unP s.data.toList) W):=by
 by_cases e0:s.data.toList=[43]
 · obtain rfl:s=⟨#[43]⟩:=xTd e0
   go_in;go_wp2_with fail;exact zE (v:=.tuple #[.agg #[.slice none 0 0,.slice (some ⟨W.heap.size+1,0,none⟩) 1 1],.bool true]) xCm rfl (zUc (x:=0) S_0 W)
 by_cases e1:s.data.toList=[42]
 · obtain rfl:s=⟨#[42]⟩:=xTd e1
   go_in;go_wp2_with fail;exact zE (v:=.tuple #[.agg #[.slice none 0 0,.slice (some ⟨W.heap.size+1,0,none⟩) 1 1],.bool true]) xCm rfl (zUc (x:=1) S_1 W)
 · rw[show unP s.data.toList=none by simp[unP,e0,e1]]
   rw[←xAe]at e0 e1;have q0:=xM1 e0;have q1:=xM1 e1;go_in;go_wp2_with fail;exact zE (v:=.tuple #[.agg #[.slice none 0 0,.slice none 0 0],.bool false]) xCm rfl ⟨none,0,0,none,0,0,rfl,⟨Vl.none_ _,by omega⟩,(zI _ _).alloc (zR _) _⟩
end
section
open Go.RowKit
structure Bq (W:World) (a:Option Addr) (n:Nat) (b:Option Addr) (m:Nat) (l:List Int) (es:List ByteArray):Prop where
 v:Vl W a n b m l es
 n:n≤20
theorem Bq.stb {a b:Option Addr} {n m:Nat} {l:List Int} {es:List ByteArray}:Stb fun w=>Bq w a n b m l es:=fun _ _ h hb=>⟨h.v.below hb,h.n⟩
section
variable {P:World→Prop} {w:World} {f:FuncId} {args:Array Value} {o:Option Ar} {k:Int}
theorem lwq {R:Ending→World→Prop} (h:Lv P w) (hc:Calls Tryz.prog f args w fun e w'=>R e w'∧Below w.heap.size w w')
 (hs:Stb P:=by repeat' (first|exact Stb.bel _|exact Stb.bx|exact Av.stb2|exact Bq.stb|refine Stb.and ?_ ?_|exact Stb.triv)):Calls Tryz.prog f args w fun e w'=>R e w'∧Lv P w':=lw h hc hs
theorem zWc (h:Lv P w) (hc:Calls Tryz.prog f args w (xL3 (o,k) w))
 (hs:Stb P:=by repeat' (first|exact Stb.bel _|exact Stb.bx|exact Av.stb2|exact Bq.stb|refine Stb.and ?_ ?_|exact Stb.triv)):
 Calls Tryz.prog f args w fun e w'=>∃a n c b m d,e=.returned (.tuple #[.agg #[.slice a n c,.slice b m d],.int .i64 k])∧Lv (fun w''=>Bx w'' w'.heap.size a n c b m d∧Av w'' a n c b m d (TS o).1 (TS o).2 o∧P w'') (w'.alloc (.cells #[.slice a n c,.slice b m d] 25)):=xFi h hc hs
theorem zXc {a b:Option Addr} {n c m d:Nat} {l:List Int} {es:List ByteArray} (h:Lv P w) (hv:Bq w a n b m l es) (hs:Stb P):
 Lv (fun w'=>Bx w' w.heap.size a n c b m d∧Bq w' a n b m l es∧P w') (w.alloc (.cells #[.slice a n c,.slice b m d] 25)):=
 have hb:Below w.heap.size w (w.alloc (.cells #[.slice a n c,.slice b m d] 25)):=(zI _ _).alloc (zR _) _
 ⟨⟨Bx.new _ _ _ _ _ _ _,Bq.stb _ _ hv hb,hs _ _ h.out hb⟩⟩
theorem zYc (h:Lv P w) (hc:Calls Tryz.prog f args w (zIc (o,k) w))
 (hs:Stb P:=by repeat' (first|exact Stb.bel _|exact Stb.bx|exact Av.stb2|exact Bq.stb|refine Stb.and ?_ ?_|exact Stb.triv)):
 Calls Tryz.prog f args w fun e w'=>∃a n c b m d,e=.returned (.tuple #[.agg #[.slice a n c,.slice b m d],.int .i64 k])∧Lv (fun w''=>Bx w'' w'.heap.size a n c b m d∧Bq w'' a n b m (TS o).1 (TS o).2∧P w'') (w'.alloc (.cells #[.slice a n c,.slice b m d] 25)):=
 hc.mono fun _ _ ⟨a,n,c,b,m,d,h1,h2,h3,h4⟩=>⟨a,n,c,b,m,d,h1,zXc ⟨hs _ _ h.out h4⟩ ⟨h2,h3⟩ hs⟩
theorem zZc (h:Lv P w) (hc:Calls Tryz.prog f args w (zN5 o w))
 (hs:Stb P:=by repeat' (first|exact Stb.bel _|exact Stb.bx|exact Av.stb2|exact Bq.stb|refine Stb.and ?_ ?_|exact Stb.triv)):
 Calls Tryz.prog f args w fun e w'=>∃a n c b m d,e=.returned (.tuple #[.agg #[.slice a n c,.slice b m d],.bool o.isSome])∧Lv (fun w''=>Bx w'' w'.heap.size a n c b m d∧Av w'' a n c b m d (TS o).1 (TS o).2 o∧P w'') (w'.alloc (.cells #[.slice a n c,.slice b m d] 25)):=
 hc.mono fun _ _ ⟨a,n,c,b,m,d,h1,h2,h3⟩=>⟨a,n,c,b,m,d,h1,xEi ⟨hs _ _ h.out h3⟩ h2 hs⟩
theorem yAc (h:Lv P w) (hc:Calls Tryz.prog f args w (zTc o w))
 (hs:Stb P:=by repeat' (first|exact Stb.bel _|exact Stb.bx|exact Av.stb2|exact Bq.stb|refine Stb.and ?_ ?_|exact Stb.triv)):
 Calls Tryz.prog f args w fun e w'=>∃a n c b m d,e=.returned (.tuple #[.agg #[.slice a n c,.slice b m d],.bool o.isSome])∧Lv (fun w''=>Bx w'' w'.heap.size a n c b m d∧Bq w'' a n b m (TS o).1 (TS o).2∧P w'') (w'.alloc (.cells #[.slice a n c,.slice b m d] 25)):=
 hc.mono fun _ _ ⟨a,n,c,b,m,d,h1,⟨h2,h3⟩,h4⟩=>⟨a,n,c,b,m,d,h1,zXc ⟨hs _ _ h.out h4⟩ ⟨h2,h3⟩ hs⟩
end
theorem yBc {s:ByteArray} {a1 b1 a2 b2:Option Addr} {n1 c1 m1 d1 n2 c2 m2 d2:Nat} {l m:List Int} {es fs:List ByteArray} {o p:Option Ar} (W:World) (hW:PW W) (h1:Av W a1 n1 c1 b1 m1 d1 l es o) (h2:Av W a2 n2 c2 b2 m2 d2 m fs p) (hf1:yR4 l es=false):
 Calls Tryz.prog 3 #[.string s,.agg #[.slice a1 n1 c1,.slice b1 m1 d1],.agg #[.slice a2 n2 c2,.slice b2 m2 d2]] W (xEk W):=by
 have KS:=zC (fun w (hb:Below W.heap.size W w)=>zZ5 w (hW.below hb));have KF1:=fun w (hb:Below W.heap.size W w)=>zJf (c:=c1) (d:=d1) w (h1.v.below hb) h1.z;rw[hf1]at KF1;replace KF1:=zC KF1;have h:=zR5 W h1 h2;clear hW h1 h2 hf1;go_in;go_wp2_with fail
 with_reducible refine(lw h (KS.out _ h.out.2.2.2.2)).mono ?_
 clear h;rintro e w ⟨rfl,h⟩;have xv:=h.out.2.2.1.c0;have yv:=h.out.2.2.1.c1;go_wp2_with fail
 with_reducible refine(lw h (KF1.out _ h.out.2.2.2.2)).mono ?_
 clear h xv yv;rintro e w ⟨rfl,h⟩;go_wp2_with fail;go_ret;exact⟨rfl,h.out.2.2.2.2⟩
theorem yCc {s:ByteArray} {a1 b1 a2 b2:Option Addr} {n1 c1 m1 d1 n2 c2 m2 d2:Nat} {l m:List Int} {es fs:List ByteArray} {o p:Option Ar} (W:World) (hW:PW W) (h1:Av W a1 n1 c1 b1 m1 d1 l es o) (h2:Av W a2 n2 c2 b2 m2 d2 m fs p) (hf1:yR4 l es=true) (hf2:yR4 m fs=false):
 Calls Tryz.prog 3 #[.string s,.agg #[.slice a1 n1 c1,.slice b1 m1 d1],.agg #[.slice a2 n2 c2,.slice b2 m2 d2]] W (xEk W):=by
 have KS:=zC (fun w (hb:Below W.heap.size W w)=>zZ5 w (hW.below hb));have KF1:=fun w (hb:Below W.heap.size W w)=>zJf (c:=c1) (d:=d1) w (h1.v.below hb) h1.z;rw[hf1]at KF1;replace KF1:=zC KF1;have KF2:=fun w (hb:Below W.heap.size W w)=>zJf (c:=c2) (d:=d2) w (h2.v.below hb) h2.z;rw[hf2]at KF2;replace KF2:=zC KF2;have h:=zR5 W h1 h2;clear hW h1 h2 hf1 hf2;go_in;go_wp2_with fail
 with_reducible refine(lw h (KS.out _ h.out.2.2.2.2)).mono ?_
 clear h;rintro e w ⟨rfl,h⟩;have xv:=h.out.2.2.1.c0;have yv:=h.out.2.2.1.c1;go_wp2_with fail
 with_reducible refine(lw h (KF1.out _ h.out.2.2.2.2)).mono ?_
 clear h xv yv;rintro e w ⟨rfl,h⟩;have xw:=h.out.1.c0;have yw:=h.out.1.c1;go_wp2_with fail
 with_reducible refine(lw h (KF2.out _ h.out.2.2.2.2)).mono ?_
 clear h xw yw;rintro e w ⟨rfl,h⟩;go_wp2_with fail;go_ret;exact⟨rfl,h.out.2.2.2.2⟩
theorem yDc {s:ByteArray} {a1 b1 a2 b2:Option Addr} {n1 c1 m1 d1 n2 c2 m2 d2:Nat} {l m:List Int} {es fs:List ByteArray} {o p:Option Ar} (W:World) (hW:PW W) (h1:Av W a1 n1 c1 b1 m1 d1 l es o) (h2:Av W a2 n2 c2 b2 m2 d2 m fs p) (hf1:yR4 l es=true) (hf2:yR4 m fs=true) (hz:s.size≤maxLen):
 Calls Tryz.prog 3 #[.string s,.agg #[.slice a1 n1 c1,.slice b1 m1 d1],.agg #[.slice a2 n2 c2,.slice b2 m2 d2]] W (xEk W):=by
 have KS:=zC (fun w (hb:Below W.heap.size W w)=>zZ5 w (hW.below hb));have KF1:=fun w (hb:Below W.heap.size W w)=>zJf (c:=c1) (d:=d1) w (h1.v.below hb) h1.z;rw[hf1]at KF1;replace KF1:=zC KF1;have KF2:=fun w (hb:Below W.heap.size W w)=>zJf (c:=c2) (d:=d2) w (h2.v.below hb) h2.z;rw[hf2]at KF2;replace KF2:=zC KF2;have POne:=fun w (hb:Below W.heap.size W w)=>zG5 (h1.below hb) (hW.below hb) hz;have ROne:=fun w (hb:Below W.heap.size W w)=>zOc (s:=s) (h1.below hb);generalize yJ3 s.data.toList o=tOne at POne ROne;obtain⟨xOne,kOne⟩:=tOne;replace POne:=zC POne;replace ROne:=zC ROne;have PTwo:=fun w (hb:Below W.heap.size W w)=>zM5 (h1.below hb) (h2.below hb) (hW.below hb) hz;have RTwo:=fun w (hb:Below W.heap.size W w)=>zSc (s:=s) (h1.below hb) (h2.below hb);generalize yK3 s.data.toList o p=tTwo at PTwo RTwo;obtain⟨xTwo,kTwo⟩:=tTwo;replace PTwo:=zC PTwo;replace RTwo:=zC RTwo;have PU:=fun w (hb:Below W.heap.size W w)=>zP5 s (hW.below hb).sm.sc hz;have RU:=fun w=>zVc s (W:=w);generalize unP s.data.toList=tU at PU RU;replace PU:=zC PU;replace RU:=zC RU;have h:=zR5 W h1 h2;clear hW h1 h2 hf1 hf2 hz;go_in;go_wp2_with fail
 with_reducible refine(lw h (KS.out _ h.out.2.2.2.2)).mono ?_
 clear h;rintro e w ⟨rfl,h⟩;have xv:=h.out.2.2.1.c0;have yv:=h.out.2.2.1.c1;go_wp2_with fail
 with_reducible refine(lw h (KF1.out _ h.out.2.2.2.2)).mono ?_
 clear h xv yv;rintro e w ⟨rfl,h⟩;have xw:=h.out.1.c0;have yw:=h.out.1.c1;go_wp2_with fail
 with_reducible refine(lw h (KF2.out _ h.out.2.2.2.2)).mono ?_
 clear h xw yw;rintro e w ⟨rfl,h⟩;have xv:=h.out.2.2.1.c0;have yv:=h.out.2.2.1.c1;go_wp2_with fail
 with_reducible refine(zWc h (POne.out _ h.out.2.2.2.2)).mono ?_
 clear h xv yv;rintro e w ⟨ae,ne,ce,be,me,de,rfl,h⟩;have xv:=h.out.2.2.2.2.1.c0;have yv:=h.out.2.2.2.2.1.c1;go_wp2_with fail
 with_reducible refine(zYc h (ROne.out _ h.out.2.2.2.2.2.2)).mono ?_
 clear h xv yv;rintro e w ⟨af,nf,cf,bf,mf,df,rfl,h⟩;have xv:=h.out.2.2.2.2.2.2.1.c0;have yv:=h.out.2.2.2.2.2.2.1.c1;have xw:=h.out.2.2.2.2.1.c0;have yw:=h.out.2.2.2.2.1.c1;go_wp2_with fail
 with_reducible refine(zWc h (PTwo.out _ h.out.2.2.2.2.2.2.2.2)).mono ?_
 clear h xv yv xw yw;rintro e w ⟨ag,ng,cg,bg,mg,dg,rfl,h⟩;have xv:=h.out.2.2.2.2.2.2.2.2.1.c0;have yv:=h.out.2.2.2.2.2.2.2.2.1.c1;have xw:=h.out.2.2.2.2.2.2.1.c0;have yw:=h.out.2.2.2.2.2.2.1.c1;go_wp2_with fail
 with_reducible refine(zYc h (RTwo.out _ h.out.2.2.2.2.2.2.2.2.2.2)).mono ?_
 clear h xv yv xw yw;rintro e w ⟨aj,nj,cj,bj,mj,dj,rfl,h⟩;go_wp2_with fail
 with_reducible refine(zZc h (PU.out _ h.out.2.2.2.2.2.2.2.2.2.2.2.2)).mono ?_
 clear h;rintro e w ⟨ap,np,cp,bp,mp,dp,rfl,h⟩;go_wp2_with fail
 with_reducible refine(yAc h (RU.out _)).mono ?_
 clear h;rintro e w ⟨ar,nr,cr,br,mr,dr,rfl,h⟩;have xe:=h.out.2.2.2.2.2.2.2.2.2.2.1.c0;have ye:=h.out.2.2.2.2.2.2.2.2.2.2.1.c1;have xf:=h.out.2.2.2.2.2.2.2.2.1.c0;have yf:=h.out.2.2.2.2.2.2.2.2.1.c1;go_wp2_with fail
 with_reducible refine(lwq h (xIi h.out.2.2.2.2.2.2.2.2.2.2.2.1.v h.out.2.2.2.2.2.2.2.2.2.1.v h.out.2.2.2.2.2.2.2.2.2.2.2.1.ntt (xN h.out.2.2.2.2.2.2.2.2.2.1.n yCn) rfl rfl)).mono ?_
 clear h xe ye xf yf;rintro e w ⟨rfl,h⟩;have xg:=h.out.2.2.2.2.2.2.1.c0;have yg:=h.out.2.2.2.2.2.2.1.c1;have xj:=h.out.2.2.2.2.1.c0;have yj:=h.out.2.2.2.2.1.c1;go_wp2_with fail
 with_reducible refine(lwq h (xIi h.out.2.2.2.2.2.2.2.1.v h.out.2.2.2.2.2.1.v h.out.2.2.2.2.2.2.2.1.ntt (xN h.out.2.2.2.2.2.1.n yCn) rfl rfl)).mono ?_
 clear h xg yg xj yj;rintro e w ⟨rfl,h⟩;have xp:=h.out.2.2.1.c0;have yp:=h.out.2.2.1.c1;have xr:=h.out.1.c0;have yr:=h.out.1.c1;go_wp2_with fail
 with_reducible refine(lwq h (xIi h.out.2.2.2.1.v h.out.2.1.v h.out.2.2.2.1.ntt (xN h.out.2.1.n yCn) rfl rfl)).mono ?_
 clear h xp yp xr yr;rintro e w ⟨rfl,h⟩;go_wp2_with fail;go_ret;exact⟨rfl,h.out.2.2.2.2.2.2.2.2.2.2.2.2.2.2.2.2⟩
theorem yEc {s:ByteArray} {a1 b1 a2 b2:Option Addr} {n1 c1 m1 d1 n2 c2 m2 d2:Nat} {l m:List Int} {es fs:List ByteArray} (W:World) (hW:PW W) (hs:s.size≤maxLen) (hV:Vl W a1 n1 b1 m1 l es) (hC:Cp n1 c1 m1 d1) (hZ:∀j,j<m1→(es.getD j ByteArray.empty).size≤maxLen) (hV2:Vl W a2 n2 b2 m2 m fs) (hC2:Cp n2 c2 m2 d2) (hZ2:∀j,j<m2→(fs.getD j ByteArray.empty).size≤maxLen):
 Calls Tryz.prog 3 #[.string s,.agg #[.slice a1 n1 c1,.slice b1 m1 d1],.agg #[.slice a2 n2 c2,.slice b2 m2 d2]] W (xEk W):=by
 obtain⟨o,ho⟩:=yOf l es;obtain⟨p,hp⟩:=yOf m fs;have h1:Av W a1 n1 c1 b1 m1 d1 l es o:=⟨hV,hC,hZ,ho⟩
 have h2:Av W a2 n2 c2 b2 m2 d2 m fs p:=⟨hV2,hC2,hZ2,hp⟩
 rcases xN0 (yR4 l es)with h|h
 · rcases xN0 (yR4 m fs)with g|g
   · exact yDc W hW h1 h2 h g hs
   · exact yCc W hW h1 h2 h g
 · exact yBc W hW h1 h2 h
end
section
open Go.ChangeShapes Go.WideShapes Go.ChangeAt Go.RowKit
theorem own:ownKnob Tryz.prog.godebug=none:=by kernel_rfl
theorem yFc:Tryz.prog.globalNamed "internal/strconv.uint64pow10" =some 2:=by kernel_rfl
theorem yGc:(Tryz.prog.globals[2]?).map (·.type)=some 184:=by kernel_rfl
theorem yHc:(Rows.laid_internal_strconv_uint64pow10:DataW Unit)=Lib.tabData .u64 Lib.pow10Tab:=by kernel_rfl
end
section
section
open Go.ChangeShapes Go.WideShapes Go.ChangeAt Go.RowKit
theorem yIc:Tryz.prog.globalNamed "strconv.ErrRange" =some 7:=by kernel_rfl
theorem yJc:(Tryz.prog.globals[7]?).map (·.type)=some 189:=by kernel_rfl
theorem yKc: "*" ++ "errors.errorString" = "*errors.errorString" :=by decide
theorem yLc (u:TypeId) (h:Tryz.prog.typeName? 3 u=some "*errors.errorString"):u=245:=
 typeName_ptr_named (nm:= "errors.errorString") (by rw[yKc];kernel_rfl) zYn yCn u (by rw[yKc];exact h)
end
end
section
open Go.ChangeShapes Go.WideShapes Go.ChangeAt Go.RowKit
theorem yMc:laidOutB Tryz.prog=true:=by kernel_rfl
theorem yNc {w:World} {a:Addr} {ss:List ByteArray} (h:∀i,i<ss.length→w.cell? (a.add i)=some (.string (ss.getD i ByteArray.empty))) (hp:0<ss.length):
 ∃b off,a=⟨b,off,none⟩∧∀j,j<ss.length→w.cell? ⟨b,off+j,none⟩=some (.string (ss.getD j ByteArray.empty)):=by
 obtain⟨b,off,spot⟩:=a;have hspot:spot=none:=by simpa[Addr.add]using World.cell?_spot (h 0 hp)
 subst hspot;exact⟨b,off,rfl,fun j hj=>by rw[←Go.WideShapes.add_plain];exact h j hj⟩
theorem yOc {x:Int} (h:(Lit.int .i64 x).wf=true):I64 x:=by
 have h1:IntKind.i64.min= -9223372036854775808:=rfl;have h2:IntKind.i64.max=9223372036854775807:=rfl;simp only[Lit.wf,zG1,zI1]at h;unfold I64;omega
theorem yPc {H:Type} {enc:TypeId×Value→H} {W:World} {fuel:Nat} {v:Value} {x:DataW H×List MemPlace} (hf:DataW.trod enc Tryz.prog W 0 (fun _=>true) true fuel 22 [v]=some x):
 ∃a n c l,v=.slice a n c∧Sl W a n l∧(∀j,j<n→I64 (l.getD j 0))∧n≤c∧c≤maxLen:=by
 have hc:Tryz.prog.cellsOf 3=1:=by kernel_rfl
 rcases open_ints Tryz.underlying22 Tryz.underlying3 hc hf with⟨hcs,_⟩|⟨a',n',c',zs,hcs,_,hle,hmax,hall,_,hcell,hwf⟩
 · simp at hcs
   exact⟨none,0,0,[],hcs,Sl.nil _ _,fun j hj=>by omega,zR _,by unfold maxLen;omega⟩
 · simp at hcs
   simp only[if_true]at hall;have hget:∀j,j<n'→(zs.take n').getD j 0=zs.getD j 0:=fun j hj=>by simp[List.getD,yU0 hj]
   refine⟨some a',n',c',zs.take n',hcs,⟨by simp;omega,fun hn=> ?_⟩,fun j hj=> ?_,hle,hmax⟩
   · obtain⟨b,off,rfl,hc2⟩:=ints_at hcell yEn
     exact⟨b,off,rfl,fun j hj=>by rw[hc2 j yEn,hget j hj]⟩
   · rw[hget j hj,yJ,yM (show j<zs.length by omega)]
     exact yOc (hwf _ (xH _))
theorem yQc {H:Type} {enc:TypeId×Value→H} {W:World} {fuel:Nat} {v:Value} {x:DataW H×List MemPlace} (hf:DataW.trod enc Tryz.prog W 0 (fun _=>true) true fuel 23 [v]=some x):
 ∃a n c l,v=.slice a n c∧St W a n l∧(∀j,j<n→(l.getD j ByteArray.empty).size≤maxLen)∧n≤c∧c≤maxLen:=by
 have hc:Tryz.prog.cellsOf 9=1:=by kernel_rfl
 rcases open_strings Tryz.underlying23 Tryz.underlying9 hc hf with⟨hcs,_⟩|⟨a',n',c',zs,hcs,_,hle,hmax,hall,_,hcell,hwf⟩
 · simp at hcs
   exact⟨none,0,0,[],hcs,St.nil _ _,fun j hj=>by omega,zR _,by unfold maxLen;omega⟩
 · simp at hcs
   simp only[if_true]at hall;have hget:∀j,j<n'→(zs.take n').getD j ByteArray.empty=zs.getD j ByteArray.empty:=fun j hj=>by simp[List.getD,yU0 hj]
   refine⟨some a',n',c',zs.take n',hcs,⟨by simp;omega,fun hn=> ?_⟩,fun j hj=> ?_,hle,hmax⟩
   · obtain⟨b,off,rfl,hc2⟩:=yNc hcell yEn
     exact⟨b,off,rfl,fun j hj=>by rw[hc2 j yEn,hget j hj]⟩
   · rw[hget j hj,yJ,yM (show j<zs.length by omega)]
     exact hwf _ (xH _)
theorem yRc:maxLen≤9223372036854775807:=by unfold maxLen;omega
theorem ySc {H:Type} {enc:TypeId×Value→H} {W:World} {r:Reach} {b0:Nat} {v:Value} {dd:DataW H} {p:List MemPlace} (hv:Value.okWide Tryz.prog W r b0 25 v) (h:DataW.Trod enc Tryz.prog W 0 (fun _=>true) true 25 v dd p):
 ∃a n c b m d l es,v=.agg #[.slice a n c,.slice b m d]∧Vl W a n b m l es∧Cp n c m d∧(∀j,j<m→(es.getD j ByteArray.empty).size≤maxLen):=by
 obtain⟨v0,v1,y0,y1,n,rfl,_,_,t0,t1⟩:=Go.Joins.open_agg2 Tryz.underlying25 zYn zYn hv h;obtain⟨a,k,c,l,rfl,hs,_,q1,q2⟩:=yPc t0;obtain⟨b,m,d,es,rfl,ht,hz,q3,q4⟩:=yQc t1;exact⟨a,k,c,b,m,d,l,es,rfl,⟨hs,ht,xN (xN q3 q4) yRc⟩,⟨q1,q2,q3,q4⟩,hz⟩
end
end Go.Proofs.YtcfbjdplhgdpfaaGreatDoor

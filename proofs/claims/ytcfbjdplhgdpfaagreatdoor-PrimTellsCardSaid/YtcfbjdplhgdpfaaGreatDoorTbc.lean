import Derived.Test.YtcfbjdplhgdpfaaGreatDoorTbb
import Derived.Test.YtcfbjdplhgdpfaaGreatDoorTba
set_option maxHeartbeats 1600000
set_option maxRecDepth 10000
namespace Go.Proofs.YtcfbjdplhgdpfaaGreatDoor
set_option linter.unusedVariables false
set_option linter.unusedSimpArgs false
theorem zIm {P:Prop}(h:P:=by show w.heap.size≤(w.heap.push _).size;simp):P:=h
theorem xUl {P:Prop}(h:P:=by first|exact yIi (w:=w) hb9|exact yIi (w:=w.drew) hb9):P:=h
section
section
open Go.RowKit
instance (x:Int):Decidable (I64 x):=by unfold I64;infer_instance
end
section
open Go.RowKit
theorem zJi (x:Int):((S x).toList==[48])=decide (x=0):=by
 rw[xAe,xN5,Bool.eq_iff_iff,beq_iff_eq,zI1];have e:Lib.itoa 0=[48]:=by rw[yPe yEn];exact xQb (n:=0) yCn
 rw[←e];exact⟨fun h=>yUe h,fun h=>by rw[h]⟩
theorem zKi {x:Int} (h:x.natAbs<lim):yTj (S x) true:=by
 have h1:=xIj (S x) (xN (xP5 h) yCn);rwa [xN5,(ySe x).2 h]at h1
def zLi (s:ByteArray) (z:Int):Prop:=∀w,Calls Tryz.prog 114 #[.string s] w fun e w'=>e=.returned (.int .i64 z)∧w=w'
theorem zMi {x:Int} (h:x.natAbs<lim):zLi (S x) x.sign:=by
 intro w;have KM:=zC (zKi h);have hz:=zJi x;have hl:=yLj x;rcases zY1 x 0 with h0|rfl|h0
 · rw[zZ1 h0]
   rw[yG0 yEn]at hz;rw[yI0 h0]at hl;have KL:=zC hl;generalize S x=s at*;clear hl;go_in;go_wp2_with fail;refine(KM.out _).mono ?_;rintro e w1 ⟨rfl,rfl⟩;go_wp2_with fail;refine(KL.out _).mono ?_;rintro e w1 ⟨rfl,rfl⟩;go_wp2_with fail;go_ret;exact⟨rfl,rfl⟩
 · rw[yI0 rfl]at hz
   rw[xA2];generalize S 0=s at*;clear hl;go_in;go_wp2_with fail;refine(KM.out _).mono ?_;rintro e w1 ⟨rfl,rfl⟩;go_wp2_with fail;go_ret;exact⟨rfl,rfl⟩
 · rw[yA1 h0]
   rw[yG0 yEn]at hz;rw[yG0 yEn]at hl;have KL:=zC hl;generalize S x=s at*;clear hl;go_in;go_wp2_with fail;refine(KM.out _).mono ?_;rintro e w1 ⟨rfl,rfl⟩;go_wp2_with fail;refine(KL.out _).mono ?_;rintro e w1 ⟨rfl,rfl⟩;go_wp2_with fail;go_ret;exact⟨rfl,rfl⟩
theorem zNi {s:ByteArray} (h:yTj s false):zLi s 0:=by
 intro w;have KM:=zC h;clear h;go_in;go_wp2_with fail;refine(KM.out _).mono ?_;rintro e w1 ⟨rfl,rfl⟩;go_wp2_with fail;go_ret;exact⟨rfl,rfl⟩
theorem zOi {s:ByteArray} {o:Option Int} (h:Is s o):zLi s (yI6 o):=by
 cases o with
 |none=>exact zNi (xRj h)
 |some x=>rw[h.1];exact zMi h.2
theorem zPi {x:Int} (h:x.natAbs<lim):Figs 100 x:=(yAe _).2 h
theorem Figs.up {x:Int} {k m:Nat} (h:Figs k x) (hk:k≤m):Figs m x:=xN h hk
theorem zQi {s:ByteArray} {o:Option Int} (w:World) (h:Is s o):Calls Tryz.prog 111 #[.string s] w fun e w'=>e=.returned (.string (T (yL6 o)))∧w=w':=by
 have KM:=zC (xRj h);cases o with
 |none=>
  clear h;go_in;go_wp2_with fail;refine(KM.out _).mono ?_;rintro e w1 ⟨rfl,rfl⟩;go_wp2_with fail;go_ret;exact⟨rfl,rfl⟩
 |some x=>
  have ht:=fun w=>yOj x ((zPi h.2).up yCn) w;unfold zEj at ht;have e0:=zC (show T (yL6 (some x))=S (-x)from rfl);rw[←h.1]at ht;have KT:=zC ht;generalize S (-x)=r at KT e0;clear ht h;go_in;go_wp2_with fail;refine(KM.out _).mono ?_;rintro e w1 ⟨rfl,rfl⟩;go_wp2_with fail;refine(KT.out _).mono ?_;rintro e w1 ⟨rfl,rfl⟩;go_wp2_with fail;go_ret;exact⟨by rw[e0.out];rfl,rfl⟩
def bnd (z:Int):Int:=if z.natAbs<lim then z else z.sign
theorem zRi (z:Int):(bnd z).natAbs<lim:=by
 have hL:=xBk;unfold bnd;split
 · assumption
 · rcases zY1 z 0 with h|rfl|h
   · rw[zZ1 h];omega
   · rw[xA2];omega
   · rw[yA1 h];omega
theorem zSi (z:Int):(bnd z).sign=z.sign:=by
 unfold bnd;split
 · rfl
 · rw[Int.sign_sign]
theorem zTi:B (Lib.decDigits 1)=⟨#[49]⟩:=by rw[xQb (n:=1) yCn];rfl
theorem zUi (z:Int) (hz:Figs 4000 z) (w:World):Calls Tryz.prog 159 #[.string (S z)] w fun e w'=>e=.returned (.string (S (bnd z)))∧w=w':=by
 have KS:=zC (yMj z hz);have KL:=zC (yLj z);have hs:=xUi (Lib.decDigits z.natAbs);by_cases h:z.natAbs<lim
 · have hlen:¬(100:Int)<((B (Lib.decDigits z.natAbs)).size:Int):=by have:=(yAe _).2 h;omega
   have e0:=zC (show S (bnd z)=S z by unfold bnd;rw[yA h]);generalize B (Lib.decDigits z.natAbs)=f at*;generalize S z=s at*;clear hs;go_in;go_wp2_with fail;refine(KS.out _).mono ?_;rintro e w1 ⟨rfl,rfl⟩;go_wp2_with fail;go_ret;exact⟨by rw[e0.out];rfl,rfl⟩
 · have hlen:(100:Int)<((B (Lib.decDigits z.natAbs)).size:Int):=by
    have:¬(Lib.decDigits z.natAbs).length≤100:=fun h2=>h ((yAe _).1 h2);omega
   have h1:(Lib.decDigits 1).length≤4000:=by rw[xQb (n:=1) yCn];decide
   have hg:=yNj 1 h1 (decide (z<0));have e1:sgn (decide (z<0)) 1=bnd z:=by
    unfold bnd sgn;rw[zY h];rcases zY1 z 0 with h0|rfl|h0
    · rw[zZ1 h0,yA (yI0 h0)];rfl
    · exact absurd (by have:=xBk;show(0:Int).natAbs<lim;omega) h
    · rw[yA1 h0,zY (by rw[decide_eq_true_iff];omega)];rfl
   rw[e1,zTi]at hg;unfold zEj at hg;have KG:=zC hg;generalize B (Lib.decDigits z.natAbs)=f at*;generalize S z=s at*;generalize decide (z<0)=b at*;generalize S (bnd z)=r at*;clear hs hg h;go_in;go_wp2_with fail;refine(KS.out _).mono ?_;rintro e w1 ⟨rfl,rfl⟩;go_wp2_with fail;refine(KL.out _).mono ?_;rintro e w1 ⟨rfl,rfl⟩;go_wp2_with fail;refine(KG.out _).mono ?_;rintro e w1 ⟨rfl,rfl⟩;go_wp2_with fail;go_ret;exact⟨rfl,rfl⟩
def zVi (s t:ByteArray) (z:Int):Prop:=∀w,Calls Tryz.prog 128 #[.string s,.string t] w (zE7 z w)
theorem zWi {x y:Int} (hx:x.natAbs<lim) (hy:y.natAbs<lim):zVi (S x) (S y) (x-y).sign:=by
 intro w;have KM:=zC (zKi hx);have KM2:=zC (zKi hy);have ht:=yOj y ((zPi hy).up yCn);unfold zEj at ht;have KT:=zC ht;clear ht;have fs:Figs 4000 (x+ -y):=by
  have h3:=yHj (k:=100) yCn (zPi hx) (zPi hy);have h4:=yIj (show(x+ -y).natAbs≤x.natAbs+y.natAbs by omega) yCn h3;exact xN h4 yCn
 have hu:=yQj x (-y) ((zPi hx).up yCn) (by unfold Figs;rw[xO2];exact(zPi hy).up yCn);unfold yAj at hu;have KU:=zC hu;clear hu;have KB:=zC (zUi (x+ -y) fs);have hs:=zMi (zRi (x+ -y));rw[zSi,show x+ -y=x-y by omega]at hs;rw[show x+ -y=x-y by omega]at KB KU;have KS:=zC hs;generalize S x=s at*;generalize S y=t at*;generalize S (-y)=t' at*;generalize S (x-y)=u at*;generalize S (bnd (x-y))=v at*;clear hs hx hy fs;go_in;go_wp2_with fail;refine(KM.out _).mono ?_;rintro e w1 ⟨rfl,rfl⟩;go_wp2_with fail;refine(KM2.out _).mono ?_;rintro e w1 ⟨rfl,rfl⟩;go_wp2_with fail;refine(KT.out _).mono ?_;rintro e w1 ⟨rfl,rfl⟩;go_wp2_with fail;refine(KU.out _).mono ?_;rintro e w1 ⟨rfl,hb⟩;go_wp2_with fail;refine(KB.out _).mono ?_;rintro e w2 ⟨rfl,rfl⟩;go_wp2_with fail;refine(KS.out _).mono ?_;rintro e w2 ⟨rfl,rfl⟩;go_wp2_with fail;go_ret;exact⟨rfl,hb⟩
theorem zXi {s t:ByteArray} {a b:Bool} (h:(a&&b)=false) (HM:yTj s a) (HM2:yTj t b):zVi s t 0:=by
 intro w;have KM:=zC HM;have KM2:=zC HM2;clear HM HM2;cases a
 · go_in
   go_wp2_with fail;refine(KM.out _).mono ?_;rintro e w1 ⟨rfl,rfl⟩;go_wp2_with fail;go_ret;exact⟨rfl,zI _ _⟩
 · cases b
   · clear h
     go_in;go_wp2_with fail;refine(KM.out _).mono ?_;rintro e w1 ⟨rfl,rfl⟩;go_wp2_with fail;refine(KM2.out _).mono ?_;rintro e w1 ⟨rfl,rfl⟩;go_wp2_with fail;go_ret;exact⟨rfl,zI _ _⟩
   · cases h
theorem zYi (x y:Int):xKa x y=(x-y).sign:=by
 unfold xKa;rcases zY1 x y with h|rfl|h
 · rw[yA h,zZ1 yEn]
 · rw[zY yEn,zY yEn,Int.sub_self,xA2]
 · rw[zY yEn,yA h,yA1 yEn]
theorem zZi {s t:ByteArray} {o p:Option Int} (hs:Is s o) (ht:Is t p):zVi s t (yG6 o p):=by
 cases hn:(o.isSome&&p.isSome)
 · have:=zXi hn (xRj hs) (xRj ht)
   cases o<;>cases p<;>first|exact this|exact absurd hn yHn
 · cases o<;>cases p<;>simp at hn
   rw[hs.1,ht.1];unfold yG6;dsimp only
   rw[zYi];exact zWi hs.2 ht.2
end
section
open Go.RowKit
theorem yAi {x:Int} (h:x<0) (h2: -10<x):S x=⟨#[45]⟩++B [zTj x.natAbs]:=by
 apply xVi;rw[xN5,yQe h,xQb yEn,yY2,xG2,xTi];rfl
theorem yBi {x:Int} (h:0≤x) (h2:x<10):S x=B [zTj x.natAbs]:=by
 apply xVi;rw[xN5,yPe h,xQb yEn,xTi];rfl
theorem yCi {x:Int} (h:x≤0):x.tdiv 10= -((x.natAbs/10:Nat):Int)∧x.tmod 10= -((x.natAbs%10:Nat):Int):=by
 obtain⟨n,rfl⟩:∃n:Nat,x= -(n:Int):=⟨x.natAbs,by omega⟩
 rw[Int.neg_tdiv,Int.neg_tmod,xO2,xP2];exact⟨rfl,rfl⟩
theorem yDi {x:Int} (h:0≤x):x.tdiv 10=((x.natAbs/10:Nat):Int)∧x.tmod 10=((x.natAbs%10:Nat):Int):=by
 obtain⟨n,rfl⟩:∃n:Nat,x=(n:Int):=⟨x.natAbs,by omega⟩
 exact⟨rfl,rfl⟩
theorem yEi {x:Int} (h:x≤ -10):S x=S (x.tdiv 10)++B [zTj (x.natAbs%10)]:=by
 have e1:(x.tdiv 10).natAbs=x.natAbs/10:=by rw[Int.natAbs_tdiv];rfl
 have h1:x.tdiv 10<0:=by
  have:=(yCi (x:=x) yEn).1;omega
 apply xVi;rw[xN5,yQe yEn,xRb yEn,yY2,xG2,xTi,xN5,yQe h1,e1];rfl
theorem yFi {x:Int} (h:10≤x):S x=S (x.tdiv 10)++B [zTj (x.natAbs%10)]:=by
 have e1:(x.tdiv 10).natAbs=x.natAbs/10:=by rw[Int.natAbs_tdiv];rfl
 have h1:0≤x.tdiv 10:=Int.tdiv_nonneg yEn yCn;apply xVi;rw[xN5,yPe yEn,xRb yEn,yY2,xG2,xTi,xN5,yPe h1,e1];rfl
def yGi (x:Int) (s:ByteArray):Prop:=∀w,Calls Tryz.prog 113 #[.int .i64 x] w (yAj s w)
theorem yHi (W:World) (b:Nat) (d:UInt8) (z:Int) (hz:z=d.toNat) (hc:W.cell? ⟨b,0,none⟩=some (.int .u8 z)):
 (convert 137 9 (.slice (some ⟨b,0,none⟩) 1 1)).run Tryz.prog W=.ok (.string (B [d])) W:=by
 subst hz;exact zK0 (P:=Tryz.prog) W 137 9 5 ⟨b,0,none⟩ 1 [d] Tryz.underlying137 Tryz.underlying5 Tryz.underlying9 (fun j hj=>by
  have:j=0:=by simpa using hj
  subst this;rw[zM0,hc];rfl)
theorem yIi {w w9:World} {v:Value} {t:TypeId} (hb:Below (w.alloc (.cells #[v] t)).heap.size (w.alloc (.cells #[v] t)) w9):w9.cell? ⟨w.heap.size,0,none⟩=some v:=by
 have h:(w.alloc (.cells #[v] t)).heap[w.heap.size]?=some (.cells #[v] t (0,0)):=by
  show(w.heap.push _)[w.heap.size]?=_;simp
 have e:=hb.block w.heap.size (by show _<(w.heap.push _).size;simp);rw[h]at e;rw[yB0 w9 _ 0 #[v] t (0,0) e];rfl
theorem yJi {x:Int} (h:x<0) (h2: -10<x):yGi x (S x):=by
 intro w;have e:=yAi h h2;have hz:(48-x:Int)=((zTj x.natAbs).toNat:Int):=by rw[zUj yEn];omega
 have hcv:=zZj w (zTj x.natAbs) _ hz;have hd1:(B [zTj x.natAbs]).size=1:=xUi _;have E:=zC e;clear e hz;generalize zTj x.natAbs=d at*;generalize S x=s at*;go_in;go_wp2_with fail;go_ret;exact⟨by rw[E.out];rfl,(zI _ _).alloc (zR _) _⟩
theorem yKi {x:Int} (h:0≤x) (h2:x<10):yGi x (S x):=by
 intro w;have e:=yBi h h2;have h0:¬x<0:=by omega
 have hz:(48+x:Int)=((zTj x.natAbs).toNat:Int):=by rw[zUj yEn];omega
 have hcv:=zZj w (zTj x.natAbs) _ hz;have hd1:(B [zTj x.natAbs]).size=1:=xUi _;have E:=zC e;clear e hz;generalize zTj x.natAbs=d at*;generalize S x=s at*;go_in;go_wp2_with fail;go_ret;exact⟨by rw[E.out];rfl,(zI _ _).alloc (zR _) _⟩
theorem yLi {x:Int} (h:x≤ -10) (h0: -9223372036854775808≤x) (HI:yGi (x.tdiv 10) (S (x.tdiv 10))) (hsz:(S (x.tdiv 10)).size≤1000):yGi x (S x):=by
 intro w;have e:=yEi h;have h1:x<0:=by omega
 have h2:¬ -10<x:=by omega
 obtain⟨q1,m1⟩:=yCi (x:=x) yEn;obtain⟨q,hq⟩:∃q,x.tdiv 10=q:=⟨_,rfl⟩
 obtain⟨m,hm⟩:∃m,x.tmod 10=m:=⟨_,rfl⟩
 rw[hq]at e HI hsz q1;rw[hm]at m1;have hz:(48-m:Int)=((zTj (x.natAbs%10)).toNat:Int):=by rw[zUj yEn];omega
 have hm3: -10<m:=by omega
 have hm4:m≤0:=by omega
 have hq3: -9223372036854775808≤q:=by omega
 have hq4:q≤9223372036854775807:=by omega
 have hd1:(B [zTj (x.natAbs%10)]).size=1:=xUi _;have hc0:(convert 137 9 (.slice (some ⟨w.heap.size,0,none⟩) 1 1)).run Tryz.prog (w.alloc (.cells #[.int .u8 (48-m)] 5))=.ok (.string (B [zTj (x.natAbs%10)])) (w.alloc (.cells #[.int .u8 (48-m)] 5)):=zZj w _ _ hz;have hc1:(convert 137 9 (.slice (some ⟨w.heap.size,0,none⟩) 1 1)).run Tryz.prog (w.alloc (.cells #[.int .u8 (48-m)] 5)).drew=.ok (.string (B [zTj (x.natAbs%10)])) (w.alloc (.cells #[.int .u8 (48-m)] 5)).drew:=zZj w.drew _ _ hz;have HZ:=zC hz;have hwq:IntKind.i64.wrap q=q:=xJ0 _ yEn;have hwm:IntKind.i64.wrap m=m:=xJ0 _ yEn;have hw48:IntKind.i64.wrap (48-m)=48-m:=xJ0 _ yEn;have hw8:IntKind.u8.wrap (48-m)=48-m:=IntWalk.u8_in _ yEn;have E:=zC e;have KI:=zC HI;clear e hz HI q1 m1;generalize zTj (x.natAbs%10)=d at*;generalize S q=s' at*;generalize S x=s at*;go_in;go_wp2_with fail;go_region_with (go_at_call 113;refine(KI.out _).mono ?_;rintro e w9 ⟨rfl,hb9⟩;have hc2:=zZj w9 _ _ HZ.out;(try have hc3:=yHi w9 w.heap.size _ _ HZ.out xUl))
 all_goals
  go_wp2_with fail;go_ret;refine⟨by rw[E.out];rfl,?_⟩
  first
   |exact((zI w.heap.size w).drew.trans (show Below w.heap.size w.drew w9 from hb9)).alloc hb9.size _
   |exact(((zI _ w).alloc (zR _) _).drew).trans (hb9.mono zIm)
theorem yMi {x:Int} (h:10≤x) (h0:x≤9223372036854775807) (HI:yGi (x.tdiv 10) (S (x.tdiv 10))) (hsz:(S (x.tdiv 10)).size≤1000):yGi x (S x):=by
 intro w;have e:=yFi h;have h1:¬x<0:=by omega
 have h2:¬x<10:=by omega
 obtain⟨q1,m1⟩:=yDi (x:=x) yEn;obtain⟨q,hq⟩:∃q,x.tdiv 10=q:=⟨_,rfl⟩
 obtain⟨m,hm⟩:∃m,x.tmod 10=m:=⟨_,rfl⟩
 rw[hq]at e HI hsz q1;rw[hm]at m1;have hz:(48+m:Int)=((zTj (x.natAbs%10)).toNat:Int):=by rw[zUj yEn];omega
 have hm3:m<10:=by omega
 have hm4:0≤m:=by omega
 have hq3: -9223372036854775808≤q:=by omega
 have hq4:q≤9223372036854775807:=by omega
 have hd1:(B [zTj (x.natAbs%10)]).size=1:=xUi _;have hc0:(convert 137 9 (.slice (some ⟨w.heap.size,0,none⟩) 1 1)).run Tryz.prog (w.alloc (.cells #[.int .u8 (48+m)] 5))=.ok (.string (B [zTj (x.natAbs%10)])) (w.alloc (.cells #[.int .u8 (48+m)] 5)):=zZj w _ _ hz;have hc1:(convert 137 9 (.slice (some ⟨w.heap.size,0,none⟩) 1 1)).run Tryz.prog (w.alloc (.cells #[.int .u8 (48+m)] 5)).drew=.ok (.string (B [zTj (x.natAbs%10)])) (w.alloc (.cells #[.int .u8 (48+m)] 5)).drew:=zZj w.drew _ _ hz;have HZ:=zC hz;have hwq:IntKind.i64.wrap q=q:=xJ0 _ yEn;have hwm:IntKind.i64.wrap m=m:=xJ0 _ yEn;have hw48:IntKind.i64.wrap (48+m)=48+m:=xJ0 _ yEn;have hw8:IntKind.u8.wrap (48+m)=48+m:=IntWalk.u8_in _ yEn;have E:=zC e;have KI:=zC HI;clear e hz HI q1 m1;generalize zTj (x.natAbs%10)=d at*;generalize S q=s' at*;generalize S x=s at*;go_in;go_wp2_with fail;go_region_with (go_at_call 113;refine(KI.out _).mono ?_;rintro e w9 ⟨rfl,hb9⟩;have hc2:=zZj w9 _ _ HZ.out;(try have hc3:=yHi w9 w.heap.size _ _ HZ.out xUl))
 all_goals
  go_wp2_with fail;go_ret;refine⟨by rw[E.out];rfl,?_⟩
  first
   |exact((zI w.heap.size w).drew.trans (show Below w.heap.size w.drew w9 from hb9)).alloc hb9.size _
   |exact(((zI _ w).alloc (zR _) _).drew).trans (hb9.mono zIm)
theorem yNi {a:Int} (h:I64 a):a.natAbs<lim:=by
 have hL:=xBk;unfold I64 at h;omega
theorem yOi {x:Int} (h:I64 x):(S x).size≤1000:=xN (xP5 (yNi h)) yCn
theorem yPi:∀(n:Nat) (x:Int),x.natAbs≤n→I64 x→yGi x (S x):=by
 intro n;induction n with
 |zero=>intro x hx h;exact yKi yEn yEn
 |succ n ih=>
  intro x hx h;have h0:=h;unfold I64 at h0;rcases zT1 x 0 with h1|h1
  · rcases zT1 (-10) x with h2|h2
    · exact yJi h1 h2
    · have e:=(yCi (x:=x) yEn).1
      have hq:I64 (x.tdiv 10):=by unfold I64;omega
      exact yLi h2 h.1 (ih _ yEn hq) (yOi hq)
  · rcases zT1 x 10 with h2|h2
    · exact yKi h1 h2
    · have e:=(yDi (x:=x) yEn).1
      have hq:I64 (x.tdiv 10):=by unfold I64;omega
      exact yMi h2 h.2 (ih _ yEn hq) (yOi hq)
theorem yQi {x:Int} (h:I64 x):yGi x (S x):=yPi x.natAbs x (zR _) h
end
end
section
section
open Go.RowKit
def yRi (s:ByteArray) (x:Int) (v:Bool):Prop:=∀w,Calls Tryz.prog 148 #[.string s] w fun e w'=>e=.returned (.tuple #[.int .i64 x,.bool v])∧Below w.heap.size w w'
theorem ySi:S 9223372036854775807=⟨#[57,50,50,51,51,55,50,48,51,54,56,53,52,55,55,53,56,48,55]⟩:=
 yZk (l:=[57,50,50,51,51,55,50,48,51,54,56,53,52,55,55,53,56,48,55]) (n:=9223372036854775807) rfl zKn ⟨_,_,rfl,by decide⟩
theorem yTi:S (-9223372036854775808)=⟨#[45,57,50,50,51,51,55,50,48,51,54,56,53,52,55,55,53,56,48,56]⟩:=
 xAk (l:=[57,50,50,51,51,55,50,48,51,54,56,53,52,55,55,53,56,48,56]) (n:=9223372036854775808) rfl yCn zKn ⟨_,_,rfl,by decide⟩
theorem yUi:(9223372036854775807:Int).natAbs<lim:=yNi yCn
theorem yVi:(-9223372036854775808:Int).natAbs<lim:=yNi yCn
theorem yWi {s:ByteArray} (h:yTj s false):yRi s 0 false:=by
 intro w;have KM:=zC h;clear h;go_in;go_wp2_with fail;refine(KM.out _).mono ?_;rintro e w1 ⟨rfl,rfl⟩;go_wp2_with fail;go_ret2;exact⟨rfl,zI _ _⟩
theorem yXi {x:Int} (h:¬I64 x) (hl:x.natAbs<lim):yRi (S x) 0 false:=by
 intro w;have KM:=zC (zKi hl);have c1:=zWi hl yUi;have c2:=zWi hl yVi;rw[ySi]at c1;rw[yTi]at c2;unfold zVi zE7 at c1 c2;by_cases h0:9223372036854775807<x
 · rw[yA1 yEn]at c1
   have K1:=zC c1;clear c1 c2;generalize S x=s at*;go_in;go_wp2_with fail;refine(KM.out _).mono ?_;rintro e w1 ⟨rfl,rfl⟩;go_wp2_with fail;refine(K1.out _).mono ?_;rintro e w1 ⟨rfl,hb⟩;go_wp2_with fail;go_ret2;exact⟨rfl,hb⟩
 · have hs:(x-9223372036854775807).sign= -1∨(x-9223372036854775807).sign=0:=by
    rcases yZ2 (show x≤9223372036854775807 by omega)with h1|h1
    · exact .inl (zZ1 yEn)
    · exact .inr (by rw[h1];rfl)
   rw[zZ1 (a:=x- -9223372036854775808) (by unfold I64 at h;omega)]at c2;have K2:=zC c2;rcases hs with hs|hs
   all_goals
    rw[hs]at c1;have K1:=zC c1;clear c1 c2;generalize S x=s at*;go_in;go_wp2_with fail;refine(KM.out _).mono ?_;rintro e w1 ⟨rfl,rfl⟩;go_wp2_with fail;refine(K1.out _).mono ?_;rintro e w1 ⟨rfl,hb⟩;go_wp2_with fail;refine(K2.out _).mono ?_;rintro e w2 ⟨rfl,hb2⟩;go_wp2_with fail;go_ret2;exact⟨rfl,hb.trans (hb2.mono hb.size)⟩
def yYi (s f:ByteArray):Prop:=∀w,Calls Tryz.prog 177 #[.string s] w fun e w'=>e=.returned (.string f)∧w=w'
def yZi (s:ByteArray) (b:Bool):Prop:=∀w,Calls Tryz.prog 147 #[.string s] w fun e w'=>e=.returned (.bool b)∧w=w'
theorem xAi {l:List UInt8} (hd:xFb l) {k:Nat} (hk:k<l.length):∃D:Nat,D<10∧(l[k]).toNat=48+D∧xEb (l.take (k+1))=xEb (l.take k)*10+D:=by
 have h1:=hd _ (xH hk);refine⟨(l[k]).toNat-48,by omega,by omega,?_⟩;rw[xJj hk]
theorem xBi (s f:ByteArray) (b:Bool) (z1 z2:Int) (hd:xFb f.data.toList) (hf:f.size≤1000) (hv:xEb f.data.toList≤9223372036854775807∨b=true∧xEb f.data.toList≤9223372036854775808) (hz1:z1≤0) (hz2:0≤z2)
 (HM:yTj s true) (HS:yYi s f) (HL:yZi s b) (C1:zVi s ⟨#[57,50,50,51,51,55,50,48,51,54,56,53,52,55,55,53,56,48,55]⟩ z1) (C2:zVi s ⟨#[45,57,50,50,51,51,55,50,48,51,54,56,53,52,55,55,53,56,48,56]⟩ z2):
 yRi s (sgn b (xEb f.data.toList)) true:=by
 intro w;unfold zVi zE7 at C1 C2;have KM:=zC HM;have KS:=zC HS;have KL:=zC HL;have K1:=zC C1;have K2:=zC C2;have KD:=zC hd;have KV:=zC hv;have z1':¬0<z1:=by omega
 have z2':¬z2<0:=by omega
 clear HM HS HL C1 C2 hd hv hz1 hz2;have hfl:f.data.toList.length=f.size:=by simp
 go_in;go_wp2_with fail;refine(KM.out _).mono ?_;rintro e w1 ⟨rfl,rfl⟩;go_wp2_with fail;refine(K1.out _).mono ?_;rintro e w1 ⟨rfl,hb1⟩;go_wp2_with fail;refine(K2.out _).mono ?_;rintro e w2 ⟨rfl,hb2⟩;have hb:=hb1.trans (hb2.mono hb1.size);clear hb1 hb2;go_wp2_with fail;go_loop [4,5] (fun nv iv=>∃i:Nat,i≤f.size∧iv=.int .i64 i∧nv=.int .i64 (sgn b (xEb (f.data.toList.take i)))) (fun _ iv=>f.size-(intOf iv).toNat)
 case atStart=>exact⟨0,xJ _,rfl,by cases b<;>rfl⟩
 case round=>
  obtain⟨i,hi,rfl,rfl⟩:=hrel;by_cases hlt:i<f.size
  · obtain⟨D,hD,hfk,hst⟩:=xAi KD.out (k:=i) yEn
    have hle:=xKj f.data.toList (i+1);have hv:=KV.out;have hfk2:(f[i]'hlt).toNat=48+D:=hfk;obtain⟨N,hN⟩:∃N,xEb (f.data.toList.take i)=N:=⟨_,rfl⟩
    obtain⟨M,hM⟩:∃M,xEb (f.data.toList.take (i+1))=M:=⟨_,rfl⟩
    rw[hN,hM]at hst;rw[hM]at hle;rw[hN];have KM2:=zC hM;clear hfk hN hM;have hb1:10*N+D≤9223372036854775808:=by omega
    cases b
    · have hb2:10*N+D≤9223372036854775807:=by
       rcases hv with hv|hv
       · omega
       · exact absurd hv.1 yCn
      have hs1:sgn false N=(N:Int):=rfl;rw[hs1];clear hv;go_wp2_with fail;refine(KS.out _).mono ?_;rintro e w3 ⟨rfl,rfl⟩;go_wp2_with fail;refine(KS.out _).mono ?_;rintro e w3 ⟨rfl,rfl⟩;go_wp2_with fail;refine(KL.out _).mono ?_;rintro e w3 ⟨rfl,rfl⟩;go_wp2_with fail;go_round
      case rel=>
       refine⟨i+1,by omega,by go_num,zH0 (Value.int .i64) ?_⟩;rw[KM2.out];show _=(M:Int);omega
      case measure=>simp[intOf];omega
    · have hs1:sgn true N= -(N:Int):=rfl
      rw[hs1];clear hv;go_wp2_with fail;refine(KS.out _).mono ?_;rintro e w3 ⟨rfl,rfl⟩;go_wp2_with fail;refine(KS.out _).mono ?_;rintro e w3 ⟨rfl,rfl⟩;go_wp2_with fail;refine(KL.out _).mono ?_;rintro e w3 ⟨rfl,rfl⟩;go_wp2_with fail;go_round
      case rel=>
       refine⟨i+1,by omega,by go_num,zH0 (Value.int .i64) ?_⟩;rw[KM2.out];show _= -(M:Int);omega
      case measure=>simp[intOf];omega
  · have he:xEb (f.data.toList.take i)=xEb f.data.toList:=by rw[yW yEn]
    rw[he];go_wp2_with fail;refine(KS.out _).mono ?_;rintro e w3 ⟨rfl,rfl⟩;go_wp2_with fail;go_ret2;exact⟨rfl,hb⟩
theorem xCi {x:Int} (h:I64 x):yRi (S x) x true:=by
 have hl:=yNi h;have hx:=h;unfold I64 at hx;have hv:=xTb x.natAbs;have hlen:=(yAe _).2 hl;have e0:sgn (decide (x<0)) x.natAbs=x:=by
  unfold sgn;by_cases h0:x<0
  · rw[yA (yI0 h0)];omega
  · rw[zY (by rw[decide_eq_true_iff];exact h0)];omega
 have c1:=zWi hl yUi;have c2:=zWi hl yVi;rw[ySi]at c1;rw[yTi]at c2;have R:=xBi (S x) (B (Lib.decDigits x.natAbs)) (decide (x<0)) _ _ (by rw[xTi];exact xUb _) (by rw[xUi];omega)
  (by rw[xTi,hv]
      by_cases h0:x<0
      · exact .inr ⟨yI0 h0,by omega⟩
      · exact .inl yEn)
  (by rcases yZ2 hx.2 with h1|h1
      · rw[zZ1 yEn];decide
      · rw[h1];decide)
  (by rcases yZ2 hx.1 with h1|h1
      · rw[yA1 yEn];decide
      · rw[←h1];decide)
  (zKi hl) (yMj x (xN hlen yCn)) (yLj x) c1 c2
 rwa [xTi,hv,e0]at R
theorem xDi {s:ByteArray} {o:Option Int} (h:Is s o):yRi s (xW4 o).1 (xW4 o).2:=by
 cases o with
 |none=>exact yWi (xRj h)
 |some x=>
  unfold xW4;dsimp only
  by_cases hi:I64 x
  · rw[yA hi,h.1];exact xCi hi
  · rw[zY hi,h.1];exact yXi hi h.2
end
end
section
open Go.RowKit
theorem Av.stb2 {a b:Option Addr} {n c m d:Nat} {l:List Int} {es:List ByteArray} {o:Option Ar}:Stb fun w=>Av w a n c b m d l es o:=fun _ _ h hb=>h.below hb
theorem lw {P:World→Prop} {w:World} {f:FuncId} {args:Array Value} {R:Ending→World→Prop} (h:Lv P w) (hc:Calls Tryz.prog f args w fun e w'=>R e w'∧Below w.heap.size w w')
 (hs:Stb P:=by repeat' (first|exact Stb.bel _|exact Stb.bx|exact Av.stb2|refine Stb.and ?_ ?_|exact Stb.triv)):Calls Tryz.prog f args w fun e w'=>R e w'∧Lv P w':=hc.mono fun _ _ k=>⟨k.1,⟨hs _ _ h.out k.2⟩⟩
theorem xEi {P:World→Prop} {w:World} {a b:Option Addr} {n c m d:Nat} {l:List Int} {es:List ByteArray} {o:Option Ar} (h:Lv P w) (hv:Av w a n c b m d l es o)
 (hs:Stb P:=by repeat' (first|exact Stb.bel _|exact Stb.bx|exact Av.stb2|refine Stb.and ?_ ?_|exact Stb.triv)):
 Lv (fun w'=>Bx w' w.heap.size a n c b m d∧Av w' a n c b m d l es o∧P w') (w.alloc (.cells #[.slice a n c,.slice b m d] 25)):=
 have hb:Below w.heap.size w (w.alloc (.cells #[.slice a n c,.slice b m d] 25)):=(zI _ _).alloc (zR _) _
 ⟨⟨Bx.new _ _ _ _ _ _ _,hv.below hb,hs _ _ h.out hb⟩⟩
theorem xFi {P:World→Prop} {w:World} {f:FuncId} {args:Array Value} {o:Option Ar} {k:Int} (h:Lv P w) (hc:Calls Tryz.prog f args w (xL3 (o,k) w))
 (hs:Stb P:=by repeat' (first|exact Stb.bel _|exact Stb.bx|exact Av.stb2|refine Stb.and ?_ ?_|exact Stb.triv)):
 Calls Tryz.prog f args w fun e w'=>∃a n c b m d,e=.returned (.tuple #[.agg #[.slice a n c,.slice b m d],.int .i64 k])∧Lv (fun w''=>Bx w'' w'.heap.size a n c b m d∧Av w'' a n c b m d (TS o).1 (TS o).2 o∧P w'') (w'.alloc (.cells #[.slice a n c,.slice b m d] 25)):=
 hc.mono fun _ _ ⟨a,n,c,b,m,d,h1,h2,h3⟩=>⟨a,n,c,b,m,d,h1,xEi ⟨hs _ _ h.out h3⟩ h2 hs⟩
theorem Av.pt {W:World} {a b:Option Addr} {n c m d:Nat} {q:Ar} (hv:Vl W a n b m q.1 (q.2.map S)) (hc:Cp n c m d) (hr:Rok (some q)):Av W a n c b m d q.1 (q.2.map S) (some q):=⟨hv,hc,hr.sz hv.t.1.symm,hr.ais⟩
theorem xGi {P:World→Prop} {w:World} {f:FuncId} {args:Array Value} {l xs:List Int} (h:Lv P w) (hc:Calls Tryz.prog f args w (yIb l (xs.map S) w)∧Rok (some (l,xs)))
 (hs:Stb P:=by repeat' (first|exact Stb.bel _|exact Stb.bx|exact Av.stb2|refine Stb.and ?_ ?_|exact Stb.triv)):
 Calls Tryz.prog f args w fun e w'=>∃a n c b m d,e=.returned (.agg #[.slice a n c,.slice b m d])∧Lv (fun w''=>Av w'' a n c b m d l (xs.map S) (some (l,xs))∧P w'') w':=
 hc.1.mono fun _ _ ⟨a,n,c,b,m,d,h1,h2,h3,h4⟩=>⟨a,n,c,b,m,d,h1,⟨⟨Av.pt h2 h3 hc.2,hs _ _ h.out h4⟩⟩⟩
theorem xHi {a b:Option Addr} {n c m d:Nat} {l:List Int} {es:List ByteArray} {o:Option Ar} (W:World) (hv:Av W a n c b m d l es o):
 Lv (fun w'=>Bx w' W.heap.size a n c b m d∧Av w' a n c b m d l es o∧Below W.heap.size W w') (W.alloc (.cells #[.slice a n c,.slice b m d] 25)):=xEi ⟨zI _ _⟩ hv
theorem Bx.on {W W':World} {g:Nat} {a b:Option Addr} {n c m d:Nat} (h:Bx W g a n c b m d) (hb:Below W.heap.size W W'):Bx W' g a n c b m d:=h.below hb h.lt
theorem Av.on {W W':World} {a b:Option Addr} {n c m d:Nat} {l:List Int} {es:List ByteArray} {o:Option Ar} (h:Av W a n c b m d l es o) (hb:Below W.heap.size W W'):Av W' a n c b m d l es o:=h.below hb
theorem Bz.a (w:World):Bx (w.alloc (.cells #[.slice none 0 0,.slice none 0 0] 25)) w.heap.size none 0 0 none 0 0:=Bx.new _ _ _ _ _ _ _
theorem Bz.b (w:World):Bx (w.alloc (.cells #[.slice none 0 0,.slice none 0 0] 25)).drew w.heap.size none 0 0 none 0 0:=Bz.a w
theorem Bz.c (w:World):Bx (w.drew.alloc (.cells #[.slice none 0 0,.slice none 0 0] 25)) w.heap.size none 0 0 none 0 0:=Bz.a w.drew
theorem Bz.d (w:World) (o:Obj):Bx ((w.alloc o).alloc (.cells #[.slice none 0 0,.slice none 0 0] 25)) (w.heap.size+1) none 0 0 none 0 0:=Bx.two _ _ _ _ _ _ _ _
theorem Bz.e (w:World) (o:Obj):Bx ((w.alloc o).alloc (.cells #[.slice none 0 0,.slice none 0 0] 25)).drew (w.heap.size+1) none 0 0 none 0 0:=Bz.d w o
theorem Bz.f (w:World) (o:Obj):Bx ((w.alloc o).drew.alloc (.cells #[.slice none 0 0,.slice none 0 0] 25)) (w.heap.size+1) none 0 0 none 0 0:=Bz.d w o
theorem Bz.g (w:World) (o:Obj):Bx ((w.alloc o).drew.alloc (.cells #[.slice none 0 0,.slice none 0 0] 25)).drew (w.heap.size+1) none 0 0 none 0 0:=Bz.d w o
theorem Bz.h (w:World) (o:Obj):Bx ((w.alloc (.cells #[.slice none 0 0,.slice none 0 0] 25)).alloc o) w.heap.size none 0 0 none 0 0:=(Bz.a w).alloc o
theorem Bz.i (w:World) (o:Obj):Bx ((w.alloc (.cells #[.slice none 0 0,.slice none 0 0] 25)).alloc o).drew w.heap.size none 0 0 none 0 0:=Bz.h w o
theorem Bz.j (w:World) (o:Obj):Bx ((w.alloc (.cells #[.slice none 0 0,.slice none 0 0] 25)).drew.alloc o) w.heap.size none 0 0 none 0 0:=Bz.h w o
theorem Bz.k (w:World) (o:Obj):Bx ((w.alloc (.cells #[.slice none 0 0,.slice none 0 0] 25)).drew.alloc o).drew w.heap.size none 0 0 none 0 0:=Bz.h w o
theorem Bz.l (w:World):Bx (w.drew.alloc (.cells #[.slice none 0 0,.slice none 0 0] 25)).drew w.heap.size none 0 0 none 0 0:=Bz.a w.drew
theorem xIi {W:World} {a1 b1 a2 b2:Option Addr} {n1 c1 m1 d1 n2 c2 m2 d2:Nat} {l m:List Int} {es fs:List ByteArray} (h1:Vl W a1 n1 b1 m1 l es) (h2:Vl W a2 n2 b2 m2 m fs) (q1:n1≤1000000) (q2:n2≤1000000) (e1:l=m) (e2:es=fs):
 Calls Tryz.prog 15 #[.agg #[.slice a1 n1 c1,.slice b1 m1 d1],.agg #[.slice a2 n2 c2,.slice b2 m2 d2]] W (yX4 true W):=by
 have h:=yY4 (c1:=c1) (d1:=d1) (c2:=c2) (d2:=d2) W h1 h2 q1 q2;subst e1 e2;rwa [zH2,yI0 rfl,Bool.and_self]at h
theorem xJi (w:World) (o:Obj):(w.alloc o).drew.heap[w.heap.size]?=some o:=yE w o
theorem xKi (w:World) (o o':Obj):((w.alloc o).alloc o').heap[w.heap.size]?=some o:=(zC1 (w.alloc o) o' _ yHn).trans (yE w o)
theorem xLi (w:World) (o o':Obj):((w.alloc o).alloc o').drew.heap[w.heap.size]?=some o:=xKi w o o'
theorem xMi (w:World) (o o':Obj):((w.alloc o).drew.alloc o').heap[w.heap.size]?=some o:=xKi w o o'
theorem xNi (w:World) (o o':Obj):((w.alloc o).drew.alloc o').drew.heap[w.heap.size]?=some o:=xKi w o o'
theorem xOi (w:World) (o o':Obj):((w.alloc o').alloc o).heap[w.heap.size+1]?=some o:=by have:=yE (w.alloc o') o;rwa [yP0]at this
theorem xPi (w:World) (o o':Obj):((w.alloc o').alloc o).drew.heap[w.heap.size+1]?=some o:=xOi w o o'
theorem xQi (w:World) (o o':Obj):((w.alloc o').drew.alloc o).drew.heap[w.heap.size+1]?=some o:=xOi w o o'
theorem xRi (w:World) (o o':Obj):((w.alloc o').drew.alloc o).heap[w.heap.size+1]?=some o:=xOi w o o'
end
end Go.Proofs.YtcfbjdplhgdpfaaGreatDoor

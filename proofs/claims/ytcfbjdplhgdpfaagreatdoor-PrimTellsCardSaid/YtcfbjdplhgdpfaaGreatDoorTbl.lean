import Derived.Test.YtcfbjdplhgdpfaaGreatDoorTbj
set_option maxHeartbeats 6400000
set_option maxRecDepth 100000
namespace Go.Proofs.YtcfbjdplhgdpfaaGreatDoor
set_option linter.unusedVariables false
set_option linter.unusedSimpArgs false
theorem zTm {P:Prop}(h:P:=by simp[results,Tryz.results54,go_sem,r0,r1]):P:=h
abbrev xV1:=@List.length_replicate
open Go.RowKit
def rpL (N k:Nat) (x:Int):List Value:=List.replicate k (Value.int .i64 x)++List.replicate (N-k) (Value.int .i64 0)
def Rp (w:World) (g N k:Nat) (x:Int):Prop:=w.heap[g]?=some (.cells (rpL N k x).toArray 3 (0,0))
theorem xP8 {N k:Nat} {x:Int} (h:k≤N):(rpL N k x).length=N:=by simp[rpL];omega
theorem Rp.made (w:World) (N:Nat) (x:Int):Rp (w.alloc (.cells (madeCells #[.int .i64 0] N) 3)) w.heap.size N 0 x:=by
 obtain⟨c,hg,hs,hc⟩:=Ir.made w N;unfold Rp;rw[hg];have e:c=(rpL N 0 x).toArray:=by
  apply Array.ext
  · simp[rpL,hs]
  · intro i h1 h2
    have:=hc i yEn;rw[Array.getElem?_eq_getElem h1]at this;injection this with this
    rw[this];simp[rpL]
 rw[e]
theorem xQ8 {N k m:Nat} {x:Int} (h:k+m≤N):splice (rpL N k x) k (List.replicate m (Value.int .i64 x))=rpL N (k+m) x:=by
 unfold splice rpL;rw[List.take_left' yHn,xV1,List.drop_append,List.drop_eq_nil_of_le yHn,zS0,List.drop_replicate,xV1,show k+m-k=m by omega,←xA,List.replicate_append_replicate,show N-k-m=N-(k+m)by omega]
theorem Rp.own {w:World} {g N:Nat} {x:Int} (h:Rp w g N N x) {B:Nat} (hB:B≤g) (hN:N≤100000):w.ownsRow B 3 1 (.slice (some ⟨g,0,none⟩) N N) N (yS9 (List.replicate N x)):=by
 refine⟨by simp[yS9],.inr ⟨g,N,_,rfl,hB,h,zR _,by unfold maxLen;omega,by simp[rpL],?_⟩⟩;simp[rpL,yS9]
theorem Rp.at {w:World} {g N k:Nat} {x:Int} (h:Rp w g N k x) {j:Nat} (hj:j<k):w.cell? ⟨g,j,none⟩=some (.int .i64 x):=by
 rw[yB0 _ _ _ _ _ _ h];simp[rpL,List.getElem?_append,hj]
theorem xR8:(Tryz.prog.info? 3).map (·.size)=some 1:=by kernel_rfl
def xS8 (n:Nat) (x:Int) (W:World) (e:Ending) (w':World):Prop:=∃a c,e=.returned (.slice a n c)∧w'.ownsRow W.heap.size 3 1 (.slice a n c) n (yS9 (List.replicate n x))∧Below W.heap.size W w'
theorem xT8 (x:Int) {m:Nat}:∀v∈List.replicate m (Value.int .i64 x),v.oneCell'=true:=fun v hv=>by rw[(List.mem_replicate.1 hv).2];rfl
theorem xU8 {m j:Nat} {x:Int} {v:Value} (h:(List.replicate m (Value.int .i64 x))[j]?=some v):j<m∧v=.int .i64 x:=by
 rw[List.getElem?_replicate]at h;split at h
 · rename_i hj
   injection h with h
   exact⟨hj,h.symm⟩
 · cases h
theorem xV8 {T e:TypeId} (ht:Tryz.prog.underlying T=some (.slice e)) (hs:∀w,(Go.sizeOf e).run Tryz.prog w=.ok 1 w) (a:Option Addr) (n c f:Nat) (h1:f≤n) (h2:n≤c) (w:World):
 (Instr.slice T (.slice a n c) (some (.int .i64 (f:Int))) none none).run Tryz.prog w=.ok (.slice (xU3 a f c) (n-f) (c-f)) w:=by
 simp[Instr.slice,Instr.sliceBounds,Instr.sliceBound,yZ0 ht,hs,asIntOf,h1,h2,xU3]
theorem xW8 {T e:TypeId} (ht:Tryz.prog.underlying T=some (.slice e)) (hs:∀w,(Go.sizeOf e).run Tryz.prog w=.ok 1 w) (a:Option Addr) (n c t:Nat) (h1:t≤c) (h0:0<c) (w:World):
 (Instr.slice T (.slice a n c) none (some (.int .i64 (t:Int))) none).run Tryz.prog w=.ok (.slice (xU3 a 0 c) t c) w:=by
 have h3:¬c=0:=by omega
 simp[Instr.slice,Instr.sliceBounds,Instr.sliceBound,yZ0 ht,hs,asIntOf,h1,xU3,h3]
theorem xX8 {g f c:Nat} (h:c≠f):xU3 (some ⟨g,0,none⟩) f c=some ⟨g,f,none⟩:=by
 unfold xU3;rw[zY h];show some ((⟨g,0,none⟩:Addr).add f)=_;rw[show(⟨g,0,none⟩:Addr).add f=⟨g,0+f,none⟩by unfold Addr.add;split<;>simp_all,zP0]
theorem xY8 {wr:World} {g n k m:Nat} {x:Int} (h:Rp wr g n k x) (hm:m=Nat.min k (n-k)) (hk:k≤n):
 (Builtin.copy_ #[22,22] 3 #[.slice (some ⟨g,k,none⟩) (n-k) (n-k),.slice (some ⟨g,0,none⟩) k n]).run Tryz.prog wr=.ok (.int .i64 (m:Int)) (wr.setRow g (rpL n (k+m) x).toArray):=by
 have hm1:m≤k:=by rw[hm];exact Nat.min_le_left _ _
 have hm2:m≤n-k:=by rw[hm];exact xW1 _ _
 have e:=run_copy_row (P:=Tryz.prog) wr 22 22 3 3 g k (n-k) (n-k) ⟨g,0,none⟩ k n (rpL n k x).toArray 3 (List.replicate m (.int .i64 x)) Tryz.underlying22 xR8 h (by rw[xV1];exact hm) (fun j v hj=>by
  obtain⟨hj1,rfl⟩:=xU8 hj;have:=h.at (j:=j) yEn;rw[show(⟨g,0,none⟩:Addr).add j=⟨g,0+j,none⟩by unfold Addr.add;split<;>simp_all,zP0];exact this) (by rw[xV1,yB1,xP8 hk];omega) (xT8 x)
 have hs:=xQ8 (N:=n) (k:=k) (m:=m) (x:=x) yEn;unfold splice at hs;rw[xV1,←xA]at hs;rw[e,xV1];show Result.ok (Value.int .i64 (m:Int)) (wr.setRow g ((rpL n k x).take k++List.replicate m (Value.int .i64 x)++(rpL n k x).drop (k+m)).toArray)=_;rw[hs]
theorem xZ8 {W:World} {a:Option Addr} {c:Nat} {x:Int} (n:Nat) (h:Sl W a 1 [x]) (hn:n≤5000):Calls Tryz.prog 107 #[.slice a 1 c,.int .i64 (n:Int)] W (xS8 n x W):=by
 have KM:=zC (fun w=>Tryz.bits_Mul 1 n yCn yEn w);rw[xY,xX1 (show n<18446744073709551616 by omega),xB1 (show n<18446744073709551616 by omega)]at KM;have hmk:=zXb n yEn;obtain⟨bb,off,rfl,hc⟩:=h.2 yEn;have hcx:W.cell? ⟨bb,off,none⟩=some (.int .i64 x):=hc 0 yEn;have HCX:=zC hcx;have w1:IntKind.u64.wrap (n:Int)=(n:Int):=by rw[IntKind.wrap_u64];omega
 have w2:IntKind.i64.wrap (n:Int)=(n:Int):=xJ0 _ yEn;have w3:IntKind.u64.wrap (1:Int)=1:=by decide
 have hnm:(n:Int)≤9223372036854775807:=by omega
 have hnm2:¬((9223372036854775807:Int)<(n:Int)):=by omega
 clear h hc hcx;go_in;go_wp2_with fail;refine(KM.out _).mono ?_;rintro e w ⟨rfl,rfl⟩;have HR0:=zC (Rp.made w n x);have hb0:Below w.heap.size w (w.alloc (.cells (madeCells #[.int .i64 0] n) 3)):=(zI _ _).alloc (zR _) _;have HB0:=zC hb0;clear hb0 KM;obtain⟨M,hM⟩:∃M,M=Nat.min 1 n:=⟨_,rfl⟩
 have hM1:M≤1:=by rw[hM];exact Nat.min_le_left _ _
 have hMn:M≤n:=by rw[hM];exact xW1 _ _
 have hMz:n≠0→M=1:=fun h=>by rw[hM];exact xR yEn
 have HM:=zC hM;clear hM;go_wp2_with (refine wpList_copy_splice rfl (.tmp 31) (.tmp 32) _ _ rfl 3 Tryz.underlying22 xR8 _ _ _ _ _ _ rfl rfl w.heap.size 0 (rpL n 0 x) 3 HR0.out (List.replicate M (.int .i64 x)) (by rw[xV1];exact HM.out) (fun h0=>⟨rfl,_,rfl,fun j v hj=>by
  obtain⟨hj1,rfl⟩:=xU8 hj;obtain rfl:j=0:=by omega
  exact(HB0.out.cell (p:=⟨bb,off,none⟩) (yU w _ HCX.out)).trans HCX.out⟩) (by rw[xV1,xP8 (xJ _)];omega) (xT8 x) w.heap.size w HB0.out (zR _) ?_;intro wo HG hbo)
 have HG2:Hid (Rp wo w.heap.size n M x):=zC (by
  have:=HG.out;rw[xQ8 yEn,zP0]at this;exact this)
 clear HG HR0 HB0;go_wp2_with fail;go_loopw [8] (fun kv wr=>∃k:Nat,kv=.int .i64 (k:Int)∧M≤k∧k≤n∧Hid (Rp wr w.heap.size n k x)∧Below w.heap.size w wr) (fun kv _=>n-(intOf kv).toNat)
 case atStart=>exact⟨M,rfl,zR _,hMn,HG2,hbo⟩
 case round=>
  obtain⟨k,rfl,hMk,hk,HR,hb⟩:=hrel;by_cases hlt:k<n
  · have e3:(k:Int)<(n:Int):=by omega
    have hk0:0<k:=by have:=hMz yEn;omega
    obtain⟨m,hm⟩:∃m,m=Nat.min k (n-k):=⟨_,rfl⟩
    have hm1:m≤k:=by rw[hm];exact Nat.min_le_left _ _
    have hm2:m≤n-k:=by rw[hm];exact xW1 _ _
    have hm3:0<m:=by rw[hm];exact Nat.lt_min.2 ⟨hk0,by omega⟩
    have HMM:=zC hm;have hr1:=xV8 Tryz.underlying22 xW3 (some ⟨w.heap.size,0,none⟩) n n k yEn (zR _);have hr2:=xW8 Tryz.underlying22 xW3 (some ⟨w.heap.size,0,none⟩) n n k yEn yEn;rw[xX8 yEn]at hr1 hr2;have hw:IntKind.i64.wrap ((k:Int)+(m:Int))=((k+m:Nat):Int):=by rw[←xZ1];exact xJ0 _ yEn
    have hc1:=xY8 HR.out hm hk;have hc2:=xY8 (wr:=wr.drew) HR.out hm hk;obtain⟨w4,hw4⟩:∃z,z=wr.setRow w.heap.size (rpL n (k+m) x).toArray:=⟨_,rfl⟩
    rw[show wr.drew.setRow w.heap.size (rpL n (k+m) x).toArray=(wr.setRow w.heap.size (rpL n (k+m) x).toArray).drew from rfl]at hc2;rw[←hw4]at hc1 hc2;have HG4:Hid (Rp w4 w.heap.size n (k+m) x):=zC (by rw[hw4];exact setRow_heap _ _ _ _ _ _ HR.out);have HB4:Hid (Below w.heap.size w w4):=zC (by rw[hw4];exact below_setRow hb (zR _) _);have hcp1:=hc1;have hcp2:=hc2;clear hc1 hc2 hw4 hm hb hMz HM HG2 hbo hmk;go_wp2_with fail;go_region
    all_goals
     clear hcp1 hcp2;go_wp2_with fail;go_roundw
     case rel=>exact⟨k+m,rfl,by omega,by omega,HG4,(by first|exact HB4.out|exact HB4.out.drew)⟩
     case measure=>simp[intOf];omega
  · have e3:¬(k:Int)<(n:Int):=by omega
    obtain rfl:k=n:=by omega
    have HOW:=zC (HR.out.own (zR _) yEn);clear HR;go_wp2_with fail;go_ret;exact⟨_,_,rfl,HOW.out,hb⟩
theorem zA9 {a1 b1:Option Addr} {n1 c1 m1 d1:Nat} {l:List Int} {es:List ByteArray} {W:World} {o:Option Ar} (h1:Av W a1 n1 c1 b1 m1 d1 l es o) (hv:vcE o≠0):
 Calls Tryz.prog 54 #[.agg #[.slice a1 n1 c1,.slice b1 m1 d1]] W (xL3 (none,vcE o) W):=by
 have KC:=zC (fun w (hb:Below W.heap.size W w)=>zUh (h1.below hb));generalize vcE o=k at*;have hk:(k != 0)=true:=by simpa using hv
 clear h1 hv;have h:=xO3 W a1 n1 c1 b1 m1 d1;go_in;have x1:=h.out.2.1.c0;have y1:=h.out.2.1.c1;go_wp2_with fail
 with_reducible refine(yMf h (KC.out _ h.out.2.2)).mono ?_
 clear h x1 y1;rintro e w ⟨rfl,h⟩;have y0:=h.out.1.c0;have y3:=h.out.1.c1;have f0:=h.out.1.f 0;have f1:=h.out.1.f 1;go_wp2_with fail;have hR:=h.out.1.set none 0 0 none 0 0;have r0:=hR.c0;have r1:=hR.c1;exact zE (v:=.tuple #[.agg #[.slice none 0 0,.slice none 0 0],.int .i64 k]) zTm rfl (xN3 h.out.1 h.out.2.2 yEn)
theorem zB9 {a1 b1:Option Addr} {n1 c1 m1 d1:Nat} {l:List Int} {es:List ByteArray} {W:World} {q:Ar} (h1:Av W a1 n1 c1 b1 m1 d1 l es (some q)) (hW:WT W) (hv:vcE (some q)=0) (hal:q.2.all zWd=false):
 Calls Tryz.prog 54 #[.agg #[.slice a1 n1 c1,.slice b1 m1 d1]] W (xL3 (none,5) W):=by
 have KC:=zC (fun w (hb:Below W.heap.size W w)=>zUh (h1.below hb));have KA:=zC (fun w (hb:Below W.heap.size W w)=>xQ7 (c:=c1) (d:=d1) (s:=l) w xVl h1.i.2.2.2 xMm (hW.below hb));rw[hv]at KC;have hal2:=zC hal;clear h1 hW hv hal;have h:=xO3 W a1 n1 c1 b1 m1 d1;go_in;have x1:=h.out.2.1.c0;have y1:=h.out.2.1.c1;go_wp2_with fail
 with_reducible refine(yMf h (KC.out _ h.out.2.2)).mono ?_
 clear h x1 y1;rintro e w ⟨rfl,h⟩;have x1:=h.out.2.1.c0;have y1:=h.out.2.1.c1;go_wp2_with fail;refine(xV7 h (KA.out _ h.out.2.2)).mono ?_;clear h x1 y1;rintro e w ⟨aa,na,ca,z,rfl,hz,h⟩;have hz5:z=5:=by
  rcases hz with⟨g,_⟩|⟨_,g⟩
  · rw[hal2.out]at g;cases g
  · exact g
 subst hz5;clear hz;have y0:=h.out.1.c0;have y3:=h.out.1.c1;have f0:=h.out.1.f 0;have f1:=h.out.1.f 1;go_wp2_with fail;have hR:=h.out.1.set none 0 0 none 0 0;have r0:=hR.c0;have r1:=hR.c1;exact zE (v:=.tuple #[.agg #[.slice none 0 0,.slice none 0 0],.int .i64 5]) zTm rfl (xN3 h.out.1 h.out.2.2 yEn)
theorem zC9 (l:List Int) (h:∀j,j<l.length→l.getD j 0≤1099511627776) (k:Nat):(yF4 (l.take k)).sum≤k*1099511627776:=by
 induction k with
 |zero=>simp[yF4]
 |succ k ih=>
  rcases zM1 k l.length with hk|hk
  · have e:yF4 (l.take (k+1))=yF4 (l.take k)++[(l.getD k 0).toNat]:=by
     rw[zK3 hk];simp[yF4]
    rw[e,zA2];have h3:=h k hk;obtain⟨z,hz⟩:∃z,z=(l.getD k 0).toNat:=⟨_,rfl⟩
    have h4:z≤1099511627776:=by omega
    rw[←hz,show[z].sum=z by simp,zB2];exact Nat.add_le_add ih h4
  · rw[yW yEn]
    rw[yW hk]at ih;rw[zB2];exact xN ih (Nat.le_add_right _ _)
theorem zD9 {a1 b1:Option Addr} {n1 c1 m1 d1:Nat} {l:List Int} {es:List ByteArray} {W:World} {q:Ar} (h1:Av W a1 n1 c1 b1 m1 d1 l es (some q)) (hW:WT W) (hv:vcE (some q)=0) (hlq:q.1.length=1) (hal:q.2.all zWd=true):
 Calls Tryz.prog 54 #[.agg #[.slice a1 n1 c1,.slice b1 m1 d1]] W (xL3 (whK (some q)) W):=by
 have KC:=zC (fun w (hb:Below W.heap.size W w)=>zUh (h1.below hb));have KA:=zC (fun w (hb:Below W.heap.size W w)=>xQ7 (c:=c1) (d:=d1) (s:=l) w xVl h1.i.2.2.2 xMm (hW.below hb));rw[hv]at KC;have hm4:=h1.mlen.2.2;have hml:=h1.mlen.1;have KW:=zC (fun w (hb:Below W.heap.size W w)=>hW.below hb);obtain⟨L,hL⟩:∃L,L=q.2:=⟨_,rfl⟩
 obtain⟨R,hR⟩:∃R,R=whK (some q):=⟨_,rfl⟩
 rw[yKg hlq hal,←hL]at hR;rw[←hL]at KA hal hml;rw[show whK (some q)=R by rw[hR,yKg hlq (by rw[←hL];exact hal),←hL]];have HX:=zC (fun j (hj:j<m1)=>zXd.1 (xO7.1 hal j yEn));have HSUM:=zC (zC9 L (fun j hj=>(zXd.1 (xO7.1 hal j hj)).2));have hal2:=zC hal;have HL:=zC hml.symm;have F5:=zC (fun j (hj:j<m1) (h0:L.getD j 0<0)=>(show R=(none,5)from hR.trans (yA ⟨L.getD j 0,by rw[yJ,yM yEn];exact xH _,h0⟩)));have F0:=fun(h0:∀j,j<m1→0≤L.getD j 0)=>(show¬∃x∈L,x<0 from by
  rintro⟨x,hx,h⟩;obtain⟨j,hj,rfl⟩:=yP hx;have:=h0 j yEn;rw[yJ,yM hj,yS]at this;omega)
 have F8:=zC (fun h0 (hs:4096<(yF4 L).sum)=>(show R=(none,8)from hR.trans (by rw[zY (F0 h0),yA hs])));have FY:=zC (fun h0 (hs:(yF4 L).sum≤4096)=>(show R=(some ([((yF4 L).sum:Int)],yE4 (whS 0 (yF4 L))),0)from hR.trans (by rw[zY (F0 h0),zY yEn])));have KI:=zC (fun w a c (hs:Sl w a (yF4 L).sum (yE4 (whS 0 (yF4 L)))) (h4:(yF4 L).sum≤4096) (ht:WT w)=>yXc a (yF4 L).sum c (yE4 (whS 0 (yF4 L))) w hs (fun j _=>yMg (by rw[yIg];omega)) yEn ht);clear h1 hv hlq hal hml hR hL F0 hW;have h:=xO3 W a1 n1 c1 b1 m1 d1;go_in;have x1:=h.out.2.1.c0;have y1:=h.out.2.1.c1;go_wp2_with fail
 with_reducible refine(yMf h (KC.out _ h.out.2.2)).mono ?_
 clear h x1 y1;rintro e w ⟨rfl,h⟩;have x1:=h.out.2.1.c0;have y1:=h.out.2.1.c1;go_wp2_with fail;refine(xV7 h (KA.out _ h.out.2.2)).mono ?_;clear h x1 y1;rintro e w ⟨aa,na,ca,z,rfl,hz,h⟩;obtain⟨rfl,hna,hS⟩:z=0∧na=m1∧Sl w aa na L:=by
  rcases hz with⟨_,g1,g2,g3,_⟩|⟨g,_⟩
  · exact⟨g1,g2.trans HL.out,g3⟩
  · rw[hal2.out]at g;cases g
 subst hna;have HS:=zC hS;clear hz hS KC KA;go_wp2_with fail;go_loop [7,30] (fun tv iv=>∃k s:Nat,tv=.int .i64 (s:Int)∧iv=.int .i64 (k:Int)∧k≤na∧Hid (s=(yF4 (L.take k)).sum)∧Hid (∀j,j<k→0≤L.getD j 0)) (fun _ iv=>na-(intOf iv).toNat)
 case atStart=>exact⟨0,0,rfl,rfl,xJ _,zC rfl,zC fun j hj=>by omega⟩
 case round=>
  obtain⟨k,s,rfl,rfl,hk,HSS,HN⟩:=hrel;by_cases hlt:k<na
  · have e2:(k:Int)<(na:Int):=by omega
    obtain⟨bb,off,rfl,hc⟩:=HS.out.2 yEn;have hck:=hc k hlt;have hg:=F5.out k hlt;have hsb:=HSUM.out k;have hxb:=HX.out k hlt;obtain⟨x,hx⟩:∃x,x=L.getD k 0:=⟨_,rfl⟩
    rw[←hx]at hck hg hxb;rw[←HSS.out]at hsb;have HXX:=zC hx;clear hc hx;by_cases h0:x<0
    · have HG:=zC (hg h0)
      clear hg;have y0:=h.out.1.c0;have y3:=h.out.1.c1;have f0:=h.out.1.f 0;have f1:=h.out.1.f 1;go_wp2_with fail;have hR:=h.out.1.set none 0 0 none 0 0;have r0:=hR.c0;have r1:=hR.c1;exact zE (v:=.tuple #[.agg #[.slice none 0 0,.slice none 0 0],.int .i64 5]) zTm rfl xWl
    · obtain⟨y,hy⟩:∃y:Nat,x=(y:Int):=⟨x.toNat,by omega⟩
      have hs2:=zC (show s+y=(yF4 (L.take (k+1))).sum from by
       rw[yHg (l:=L) (k:=k) xTm (HXX.out.symm.trans hy),zA2,←HSS.out];simp)
      have hw:IntKind.i64.wrap ((s:Int)+x)=((s+y:Nat):Int):=by rw[hy,←xZ1];exact xJ0 _ yEn
      clear hg hsb hxb hy;go_wp2_with fail;go_round
      case rel=>exact⟨k+1,s+y,rfl,by go_num,by omega,hs2,zC fun j hj=>by
       by_cases e:j=k
       · rw[e,←HXX.out];omega
       · exact HN.out j yEn⟩
      case measure=>simp[intOf];omega
  · have e2:¬(k:Int)<(na:Int):=by omega
    obtain rfl:k=na:=by omega
    have F8':=zC (F8.out HN.out);have FY':=zC (FY.out HN.out);have hsn:s=(yF4 L).sum:=by have:=HSS.out;rwa [yW xPm]at this
    have HSN:=zC hsn;clear F5 F8 FY hlt hk hsn HSS;by_cases hbig:4096<s
    · have HG:=zC (F8'.out (by rw[←HSN.out];exact hbig))
      have e4:(4096:Int)<(s:Int):=by omega
      have y0:=h.out.1.c0;have y3:=h.out.1.c1;have f0:=h.out.1.f 0;have f1:=h.out.1.f 1;go_wp2_with fail;have hR:=h.out.1.set none 0 0 none 0 0;have r0:=hR.c0;have r1:=hR.c1;exact zE (v:=.tuple #[.agg #[.slice none 0 0,.slice none 0 0],.int .i64 8]) zTm rfl xWl
    · have e4:¬(4096:Int)<(s:Int):=by omega
      have HS4:=zC (show(yF4 L).sum≤4096 by rw[←HSN.out];omega);obtain⟨B,hB⟩:∃B,B=w.heap.size:=⟨_,rfl⟩
      go_wp2_with fail;go_loopw [10,46] (fun ov iv wr=>∃(i t:Nat) (av:Option Addr) (cv:Nat),ov=.slice av t cv∧iv=.int .i64 (i:Int)∧i≤k∧t≤4096∧Hid (t=(yF4 (L.take i)).sum)∧wr.ownsRow B 3 1 (.slice av t cv) t (yS9 (yE4 (whS 0 (yF4 (L.take i)))))∧Below B w wr) (fun _ iv _=>k-(intOf iv).toNat)
      case atStart=>exact⟨0,0,none,0,rfl,rfl,xJ _,xJ _,zC rfl,zT _ _ _ _,by rw[hB];exact zI _ _⟩
      case round=>
       obtain⟨i,t,av,cv,rfl,rfl,hi,ht4,HTT,ho,hb⟩:=hrel;by_cases hil:i<k
       · have e3:(i:Int)<(k:Int):=by omega
         obtain⟨bb,off,rfl,hc⟩:=HS.out.2 yEn;have hck:=(hb.cell (p:=⟨bb,off+i,none⟩) (by rw[hB];exact yU w _ (hc i hil))).trans (hc i hil);obtain⟨x,hx⟩:∃x:Nat,L.getD i 0=(x:Int):=⟨(L.getD i 0).toNat,by have:=HN.out i hil;omega⟩
         have hsn:=yHg (l:=L) (k:=i) xUm hx;have hsum:(yF4 (L.take (i+1))).sum=t+x:=by rw[hsn,zA2,HTT.out];simp
         have hw0:=zC (show whS 0 (yF4 (L.take (i+1)))=whS 0 (yF4 (L.take i))++List.replicate x i from by rw[hsn,yWd,yIg,xP,HL.out,show 0+min i k=i by omega]);have hle:=yGg L (i+1);rw[hsum]at hle;have hx4:t+x≤4096:=by have:=HS4.out;omega
         rw[hx]at hck;have HSU:=zC hsum;have hbz:B≤wr.heap.size:=by have:=hb.size;rw[hB];exact this
         have hb1:Below wr.heap.size wr (wr.alloc (.cells #[.int .i64 (i:Int)] 3)):=(zI _ _).alloc (zR _) _;have KR:=zC (xZ8 (c:=1) x (zYf (l:=[(i:Int)]) (yKb wr (i:Int))) yEn);have HO:=zC (zLe ho hb1);have HB2:=zC (hb.trans (hb1.mono hbz));clear hc hx hsn hsum ho hb hb1 hle;generalize whS 0 (yF4 (L.take i))=LI at*;go_wp2_with fail;refine KR.out.mono ?_;rintro e w5 ⟨ra,rc,rfl,hro,hb5⟩;have hz5:B≤(wr.alloc (.cells #[.int .i64 (i:Int)] 3)).heap.size:=by simp;omega
         have ho5:=zC (zLe HO.out hb5);have hr5:=zC (yGf hro);have hb6:=HB2.out.trans (hb5.mono hz5);have hz6:B≤w5.heap.size:=xN hz5 hb5.size;clear hro hb5 KR HO HB2 hck;go_wp2_with (at_builtin;refine yDf rfl (.tmp 51) (.tmp 55) 22 rfl B 3 (.int .i64 0) 8 Tryz.underlying22 xB4 rfl yCn _ t _ rfl ho5.out ra x rc (yS9 (List.replicate x (i:Int))) rfl hr5.out (zUf _) yEn hz6 ?_;intro av' cv' w3 hown3 hg3)
         have hb7:Below B w w3:=hb6.trans (yHf hg3 (fun g' hg'=>(ho5.out.lt g' hg').1) hz6);rw[show yS9 (yE4 LI)++yS9 (List.replicate x (i:Int))=yS9 (yE4 (LI++List.replicate x i))by simp[yS9,yE4],←hw0.out]at hown3;clear hg3 ho5 hr5 hb6;go_wp2_with fail;go_roundw
         case rel=>exact⟨i+1,t+x,av',cv',rfl,by go_num,by omega,by omega,zC HSU.out.symm,hown3,hb7⟩
         case measure=>simp[intOf];omega
       · have e3:¬(i:Int)<(k:Int):=by omega
         obtain rfl:i=k:=by omega
         have e5:L.take i=L:=yW xPm;rw[e5]at HTT ho;have hs:=HTT.out;subst hs;have hsl:=zC (zYf ho);have HRR:=zC (FY'.out HS4.out);have HRK:=zC (zJ8 HS4.out (by rw[yIg,HL.out];exact hm4));replace h:=xLg h hb zGn;have KI2:=zC (KI.out _ av cv hsl.out HS4.out (KW.out _ h.out.2.2));clear ho hb KI;have y0:=h.out.1.c0;have y3:=h.out.1.c1;have f0:=h.out.1.f 0;have f1:=h.out.1.f 1;go_wp2_with fail
         with_reducible refine(yWc h KI2.out).mono ?_
         clear h y0 y3 f0 f1;rintro e w ⟨ar,nr,cr,br,mr,dr,rfl,h,hv,hc⟩;have y0:=h.out.1.c0;have y3:=h.out.1.c1;have f0:=h.out.1.f 0;have f1:=h.out.1.f 1;go_wp2_with fail;have hR:=h.out.1.set ar nr cr br mr dr;have r0:=hR.c0;have r1:=hR.c1;exact zE (v:=.tuple #[.agg #[.slice ar nr cr,.slice br mr dr],.int .i64 0]) zTm rfl (by
          rw[HRR.out];exact xM3 (r:=(some ([((yF4 L).sum:Int)],yE4 (whS 0 (yF4 L))),0)) h.out.1 h.out.2.2 yEn hv hc HRK.out)
theorem zE9 {a1 b1:Option Addr} {n1 c1 m1 d1:Nat} {l:List Int} {es:List ByteArray} {W:World} {o:Option Ar} (h1:Av W a1 n1 c1 b1 m1 d1 l es o) (hW:WT W):Calls Tryz.prog 54 #[.agg #[.slice a1 n1 c1,.slice b1 m1 d1]] W (xL3 (whK o) W):=by
 by_cases hv:vcE o=0
 · obtain⟨q,rfl,hl⟩:=zUa hv
   rcases xN0 (q.2.all zWd)with ha|ha
   · exact zD9 h1 hW hv hl ha
   · rw[yLg hl ha];exact zB9 h1 hW hv ha
 · rw[zTa hv];exact zA9 h1 hv
end Go.Proofs.YtcfbjdplhgdpfaaGreatDoor

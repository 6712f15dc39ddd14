import Derived.Test.YtcfbjdplhgdpfaaGreatDoorTbj
set_option maxHeartbeats 6400000
set_option maxRecDepth 100000
namespace Go.Proofs.YtcfbjdplhgdpfaaGreatDoor
set_option linter.unusedVariables false
set_option linter.unusedSimpArgs false
theorem zWm {P:Prop}(h:P:=by simp[results,Tryz.results76,go_sem,r0,r1]):P:=h
theorem zVm {P:Prop}(h:P:=by simp[results,Tryz.results55,go_sem,r0,r1]):P:=h
theorem xQl {P:Prop}(h:P:=by repeat' (first|exact Stb.fst|exact Stb.bel _|exact Stb.bx|refine Stb.and ?_ ?_)):P:=h
open Go.RowKit
theorem yAa {w:World} {B n:Nat} {l:List ByteArray} {s:ByteArray} (h:Fst w B n l) (hs:s∈l) (hz:s.size≤maxLen):(Instr.lookup 102 (.map (some B)) (.string s) false).run Tryz.prog w=.ok (.int .i64 ((fpS l s:Nat):Int)) w:=by
 obtain⟨D,h1,h2⟩:=h;obtain⟨c,hr,hat,_⟩:=h1.lookup_int zGh Tryz.underlying102 Tryz.underlying3 (zHh _) (yK2 Tryz.underlying9 hz);rw[hr,h2.at hs hat]
theorem yBa {w:World} {B n:Nat} {l:List ByteArray} {s:ByteArray} (h:Fst w B n l) (hz:s.size≤maxLen):∃c:Int,(Instr.lookup 102 (.map (some B)) (.string s) true).run Tryz.prog w=.ok (.tuple #[.int .i64 c,.bool (@decide (s∈l) (Classical.propDecidable _))]) w∧(s∈l→c=(fpS l s:Nat)):=by
 obtain⟨D,h1,h2⟩:=h;obtain⟨v,ps,hr,hv⟩:=h1.look_ok zGh Tryz.underlying102 (zHh _) (plainElem_int (H:=Unit) (P:=Tryz.prog) (e:=3) (q:=.i64) Tryz.underlying3 (a:=0) yCn) (yK2 Tryz.underlying9 hz);obtain⟨c,rfl,hc,_⟩:=plainElem_int_inv Tryz.underlying3 hv;refine⟨c,?_,fun hs=>h2.at hs (zH0 Prod.fst hc)⟩;rw[hr];by_cases hs:s∈l
 · rw[h2.yes hs,@decide_eq_true _ (Classical.propDecidable _) hs]
 · rw[h2.no hs,@decide_eq_false _ (Classical.propDecidable _) hs]
theorem yCa {a1 b1:Option Addr} {n1 c1 m1 d1:Nat} {l:List Int} {es:List ByteArray} {W:World} {o:Option Ar} (h1:Av W a1 n1 c1 b1 m1 d1 l es o) (hv:vcE o≠0):
 Calls Tryz.prog 55 #[.agg #[.slice a1 n1 c1,.slice b1 m1 d1]] W (xL3 (none,vcE o) W):=by
 have KC:=zC (fun w (hb:Below W.heap.size W w)=>zUh (h1.below hb));generalize vcE o=k at*;have hk:(k != 0)=true:=by simpa using hv
 clear h1 hv;have h:=xO3 W a1 n1 c1 b1 m1 d1;go_in;have x1:=h.out.2.1.c0;have y1:=h.out.2.1.c1;go_wp2_with fail
 with_reducible refine(yMf h (KC.out _ h.out.2.2)).mono ?_
 clear h x1 y1;rintro e w ⟨rfl,h⟩;have y0:=h.out.1.c0;have y3:=h.out.1.c1;have f0:=h.out.1.f 0;have f1:=h.out.1.f 1;go_wp2_with fail;have hR:=h.out.1.set none 0 0 none 0 0;have r0:=hR.c0;have r1:=hR.c1;exact zE (v:=.tuple #[.agg #[.slice none 0 0,.slice none 0 0],.int .i64 k]) zVm rfl (xN3 h.out.1 h.out.2.2 yEn)
theorem yDa {a1 b1:Option Addr} {n1 c1 m1 d1:Nat} {l:List Int} {es:List ByteArray} {W:World} {q:Ar} (h1:Av W a1 n1 c1 b1 m1 d1 l es (some q)) (hv:vcE (some q)=0):
 Calls Tryz.prog 55 #[.agg #[.slice a1 n1 c1,.slice b1 m1 d1]] W (xL3 (some ([((unS q.2).length:Int)],unS q.2),0) W):=by
 have KC:=zC (fun w (hb:Below W.heap.size W w)=>zUh (h1.below hb));rw[hv]at KC;have hm4:=h1.mlen.2.2;have hml:=h1.mlen.1;have HR:=zC (zK8 h1.i.rok zBn);have HS:=zC (show St W b1 m1 (q.2.map S)from by have:=h1.v.t;rwa [h1.i.2.1]at this);have HZ:=zC (show∀j,j<m1→((q.2.map S).getD j ByteArray.empty).size≤maxLen from by have:=h1.z;rwa [h1.i.2.1]at this);obtain⟨L,hL⟩:∃L,L=q.2:=⟨_,rfl⟩
 rw[←hL]at HR HS HZ hml;rw[←hL];have KF:=zC (fun w (hb:Below W.heap.size W w)=>zYh b1 m1 d1 (L.map S) w (HS.out.below hb) HZ.out yEn);have HL:=zC hml.symm;clear h1 hv hml hL;have h:=xO3 W a1 n1 c1 b1 m1 d1;go_in;have x1:=h.out.2.1.c0;have y1:=h.out.2.1.c1;go_wp2_with fail
 with_reducible refine(yMf h (KC.out _ h.out.2.2)).mono ?_
 clear h x1 y1;rintro e w ⟨rfl,h⟩;have x1:=h.out.2.1.c0;have y1:=h.out.2.1.c1;go_wp2_with fail
 with_reducible refine(zJh h (KF.out _ h.out.2.2)).mono ?_
 clear h x1 y1;rintro e w ⟨M,rfl,h⟩;have HLV:=zC h;obtain⟨B,hB⟩:∃B,B=w.heap.size:=⟨_,rfl⟩
 have x1:=h.out.2.2.1.c0;have y1:=h.out.2.2.1.c1;clear h;go_wp2_with fail;go_loopw [6,21] (fun ov iv wr=>∃(i s:Nat) (av:Option Addr) (cv:Nat),ov=.slice av s cv∧iv=.int .i64 (i:Int)∧i≤m1∧s≤i∧Hid (s=(unS (L.take i)).length)∧wr.ownsRow B 9 1 (.slice av s cv) s (zTf ((unS (L.take i)).map S))∧Below B w wr) (fun _ iv _=>m1-(intOf iv).toNat)
 case atStart=>exact⟨0,0,none,0,rfl,rfl,xJ _,xJ _,zC rfl,zT _ _ _ _,by rw[hB];exact zI _ _⟩
 case round=>
  obtain⟨i,s,av,cv,rfl,rfl,hi,hsi,HSS,ho,hb⟩:=hrel;clear x1 y1;have h:Lv (fun z=>Fst z M (L.map S).length (L.map S)∧Bx z (W.heap.size+1) none 0 0 none 0 0∧Bx z W.heap.size a1 n1 c1 b1 m1 d1∧Below W.heap.size W z) wr:=xVf HLV.out (by rw[←hB];exact hb) xQl;have hsz:=hb.size;by_cases hil:i<m1
  · have e3:(i:Int)<(m1:Int):=by omega
    obtain⟨bb,off,rfl,hc⟩:=HS.out.2 yEn;have hck:=(h.out.2.2.2.cell (p:=⟨bb,off+i,none⟩) (yU W _ (hc i hil))).trans (hc i hil);have hzi:=HZ.out i hil;rw[yE8 xUm]at hck hzi;have HU:=zC (yVg (xs:=L) (i:=i) xUm);have hin:S (L.getD i 0)∈L.map S:=xY0.2 ⟨_,by rw[yJ,yM xUm];exact xH _,rfl⟩;have hlk:=yAa h.out.1 hin hzi;rw[yTg]at hlk;obtain⟨x,hx⟩:∃x,x=L.getD i 0:=⟨_,rfl⟩
    rw[←hx]at hck hlk HU;obtain⟨f,hf⟩:∃f,f=fpS L x:=⟨_,rfl⟩
    rw[←hf]at hlk HU;have HO:=zC ho;have HBB:=zC hb;clear hc hx hf hin hzi ho hb h;obtain⟨tx,htx⟩:∃tx,tx=S x:=⟨_,rfl⟩
    rw[←htx]at hck hlk;have HTX:=zC htx;clear htx;by_cases hfi:f=i
    · have e4:((f:Int)==(i:Int))=true:=by rw[hfi];exact zH2 _
      have ho2:=zC (HO.out.alloc (.cells #[.string tx] 9));have hr5:=zC (yGf (zF3 wr tx));go_wp2_with (at_builtin;refine yDf rfl (.tmp 31) (.tmp 33) 23 rfl B 9 (.string ⟨#[]⟩) 16 Tryz.underlying23 xC4 rfl yCn _ s _ rfl ho2.out _ 1 1 (zTf [tx]) rfl hr5.out (zVf _) yEn zZn ?_;intro av' cv' w3 hown3 hg3)
      have hb6:Below B w w3:=(HBB.out.alloc yEn _).trans (yHf hg3 (fun g' hg'=>(ho2.out.lt g' hg').1) zZn);rw[zSg]at hown3;clear hg3 ho2 hr5;go_wp2_with fail;go_roundw
      case rel=>exact⟨i+1,s+1,av',cv',rfl,by go_num,by omega,by omega,zC xEm,by rw[HU.out,yA hfi,zN];rw[List.map_singleton,←HTX.out];exact hown3,hb6⟩
      case measure=>simp[intOf];omega
    · have e4:((f:Int)==(i:Int))=false:=zT0.2 yEn
      go_wp2_with fail;go_roundw
      case rel=>exact⟨i+1,s,av,cv,rfl,by go_num,by omega,by omega,zC (by rw[HU.out,zY hfi,xL];exact HSS.out),by rw[HU.out,zY hfi,xL];exact HO.out,HBB.out⟩
      case measure=>simp[intOf];omega
  · have e3:¬(i:Int)<(m1:Int):=by omega
    obtain rfl:i=m1:=by omega
    have e5:L.take i=L:=yW xPm;rw[e5]at HSS ho;have hs:=HSS.out;have hst:=zC (zZf ho);have KV:=zC (yZc av s cv ((unS L).map S) wr hst.out yEn);subst hs;have hh:Lv (fun z=>Bx z (W.heap.size+1) none 0 0 none 0 0∧Bx z W.heap.size a1 n1 c1 b1 i d1∧Below W.heap.size W z) wr:=⟨h.out.2⟩
    clear ho hb h KF;generalize hUL:unS L=UL at*;have h:=hh;clear hh;have y0:=h.out.1.c0;have y3:=h.out.1.c1;have f0:=h.out.1.f 0;have f1:=h.out.1.f 1;go_wp2_with fail
    with_reducible refine(yWc h KV.out).mono ?_
    clear h y0 y3 f0 f1;rintro e w ⟨ar,nr,cr,br,mr,dr,rfl,h,hv,hc⟩;have y0:=h.out.1.c0;have y3:=h.out.1.c1;have f0:=h.out.1.f 0;have f1:=h.out.1.f 1;go_wp2_with fail;have hR:=h.out.1.set ar nr cr br mr dr;have r0:=hR.c0;have r1:=hR.c1;exact zE (v:=.tuple #[.agg #[.slice ar nr cr,.slice br mr dr],.int .i64 0]) zVm rfl
     (xM3 (r:=(some ([(UL.length:Int)],UL),0)) h.out.1 h.out.2.2 yEn hv hc HR.out)
theorem yEa {a1 b1:Option Addr} {n1 c1 m1 d1:Nat} {l:List Int} {es:List ByteArray} {W:World} {o:Option Ar} (h1:Av W a1 n1 c1 b1 m1 d1 l es o) (hW:WT W):Calls Tryz.prog 55 #[.agg #[.slice a1 n1 c1,.slice b1 m1 d1]] W (xL3 (unK o) W):=by
 by_cases hv:vcE o=0
 · obtain⟨q,rfl,hl⟩:=zUa hv
   rw[ySg hl];exact yDa h1 hv
 · rw[yRg hv];exact yCa h1 hv
theorem yFa {a1 b1 a2 b2:Option Addr} {n1 c1 m1 d1 n2 c2 m2 d2:Nat} {l m:List Int} {es fs:List ByteArray} {W:World} (h2:Av W a2 n2 c2 b2 m2 d2 m fs none):
 Calls Tryz.prog 76 #[.agg #[.slice a1 n1 c1,.slice b1 m1 d1],.agg #[.slice a2 n2 c2,.slice b2 m2 d2]] W (xL3 (none,1) W):=by
 have KU:=zC (fun w (hb:Below W.heap.size W w)=>yTc (h2.below hb));clear h2;have h:=xP3 W a1 n1 c1 b1 m1 d1 a2 n2 c2 b2 m2 d2;go_in;have x2:=h.out.2.1.c0;have y2:=h.out.2.1.c1;go_wp2_with fail
 with_reducible refine(yMf h (KU.out _ h.out.2.2.2)).mono ?_
 clear h x2 y2;rintro e w ⟨rfl,h⟩;have y0:=h.out.1.c0;have y3:=h.out.1.c1;have f0:=h.out.1.f 0;have f1:=h.out.1.f 1;go_wp2_with fail;have hR:=h.out.1.set none 0 0 none 0 0;have r0:=hR.c0;have r1:=hR.c1;exact zE (v:=.tuple #[.agg #[.slice none 0 0,.slice none 0 0],.int .i64 1]) zWm rfl (xN3 h.out.1 h.out.2.2.2 yEn)
theorem yGa {a1 b1 a2 b2:Option Addr} {n1 c1 m1 d1 n2 c2 m2 d2:Nat} {l m:List Int} {es fs:List ByteArray} {W:World} {o:Option Ar} {r:Ar} (h1:Av W a1 n1 c1 b1 m1 d1 l es o) (h2:Av W a2 n2 c2 b2 m2 d2 m fs (some r)) (hv:vcE o≠0):
 Calls Tryz.prog 76 #[.agg #[.slice a1 n1 c1,.slice b1 m1 d1],.agg #[.slice a2 n2 c2,.slice b2 m2 d2]] W (xL3 (none,vcE o) W):=by
 have KU:=zC (fun w (hb:Below W.heap.size W w)=>yTc (h2.below hb));have KC:=zC (fun w (hb:Below W.heap.size W w)=>zUh (h1.below hb));generalize vcE o=k at*;have hk:(k != 0)=true:=by simpa using hv
 clear h1 h2 hv;have h:=xP3 W a1 n1 c1 b1 m1 d1 a2 n2 c2 b2 m2 d2;go_in;have x2:=h.out.2.1.c0;have y2:=h.out.2.1.c1;go_wp2_with fail
 with_reducible refine(yMf h (KU.out _ h.out.2.2.2)).mono ?_
 clear h x2 y2;rintro e w ⟨rfl,h⟩;have x1:=h.out.2.2.1.c0;have y1:=h.out.2.2.1.c1;go_wp2_with fail
 with_reducible refine(yMf h (KC.out _ h.out.2.2.2)).mono ?_
 clear h x1 y1;rintro e w ⟨rfl,h⟩;have y0:=h.out.1.c0;have y3:=h.out.1.c1;have f0:=h.out.1.f 0;have f1:=h.out.1.f 1;go_wp2_with fail;have hR:=h.out.1.set none 0 0 none 0 0;have r0:=hR.c0;have r1:=hR.c1;exact zE (v:=.tuple #[.agg #[.slice none 0 0,.slice none 0 0],.int .i64 k]) zWm rfl (xN3 h.out.1 h.out.2.2.2 yEn)
theorem yHa {a1 b1 a2 b2:Option Addr} {n1 c1 m1 d1 n2 c2 m2 d2:Nat} {l m:List Int} {es fs:List ByteArray} {W:World} {q r:Ar} (h1:Av W a1 n1 c1 b1 m1 d1 l es (some q)) (h2:Av W a2 n2 c2 b2 m2 d2 m fs (some r)) (hW:WT W) (hv:vcE (some q)=0):
 Calls Tryz.prog 76 #[.agg #[.slice a1 n1 c1,.slice b1 m1 d1],.agg #[.slice a2 n2 c2,.slice b2 m2 d2]] W (xL3 (some (r.1,r.2.map fun x=>(fpS q.2 x:Int)),0) W):=by
 have KU:=zC (fun w (hb:Below W.heap.size W w)=>yTc (h2.below hb));have KC:=zC (fun w (hb:Below W.heap.size W w)=>zUh (h1.below hb));rw[hv]at KC;have hm4:=h1.mlen.2.2;have hml:=h1.mlen.1;have hm5:=h2.mlen.2.2;have hml2:=h2.mlen.1;have hn3:=h2.n3;have HR:=zC (zL8 (q:=q) h2.i.rok zBn);have HS:=zC (show St W b1 m1 (q.2.map S)from by have:=h1.v.t;rwa [h1.i.2.1]at this);have HS2:=zC (show St W b2 m2 (r.2.map S)from by have:=h2.v.t;rwa [h2.i.2.1]at this);have HZ:=zC (show∀j,j<m1→((q.2.map S).getD j ByteArray.empty).size≤maxLen from by have:=h1.z;rwa [h1.i.2.1]at this);have HZ2:=zC (show∀j,j<m2→((r.2.map S).getD j ByteArray.empty).size≤maxLen from by have:=h2.z;rwa [h2.i.2.1]at this);have HSL:=zC (show Sl W a2 n2 r.1 from by rw[h2.fst];exact h2.v.s);have KW:=zC (fun w (hb:Below W.heap.size W w)=>hW.below hb);obtain⟨L,hL⟩:∃L,L=q.2:=⟨_,rfl⟩
 obtain⟨R,hRR⟩:∃R,R=r.2:=⟨_,rfl⟩
 obtain⟨X,hX⟩:∃X,X=r.1:=⟨_,rfl⟩
 rw[←hL]at HR HS HZ hml;rw[←hRR]at HR HS2 HZ2 hml2;rw[←hX]at HR HSL;rw[←hL,←hRR,←hX];have KF:=zC (fun w (hb:Below W.heap.size W w)=>zYh b1 m1 d1 (L.map S) w (HS.out.below hb) HZ.out yEn);have HL:=zC hml.symm;have HL2:=zC hml2.symm;obtain⟨Fd,hFd⟩:∃Fd:List Int,Fd=R.map fun x=>(fpS L x:Int):=⟨_,rfl⟩
 rw[←hFd]at HR;rw[←hFd];have HFL:Hid (Fd.length=m2):=zC (by rw[hFd,zD0];exact hml2.symm);have HFA:Hid (∀j,j<m2→Fd.getD j 0=(fpS L (R.getD j 0):Int)):=zC fun j hj=>by
  rw[hFd,yJ,xS0,yM yEn,yJ,yM yEn];rfl
 have hmk:=zXb m2 yEn;clear h1 h2 hv hml hml2 hL hRR hX hFd hW;have h:=xP3 W a1 n1 c1 b1 m1 d1 a2 n2 c2 b2 m2 d2;go_in;have x2:=h.out.2.1.c0;have y2:=h.out.2.1.c1;go_wp2_with fail
 with_reducible refine(yMf h (KU.out _ h.out.2.2.2)).mono ?_
 clear h x2 y2;rintro e w ⟨rfl,h⟩;have x1:=h.out.2.2.1.c0;have y1:=h.out.2.2.1.c1;go_wp2_with fail
 with_reducible refine(yMf h (KC.out _ h.out.2.2.2)).mono ?_
 clear h x1 y1;rintro e w ⟨rfl,h⟩;have x1:=h.out.2.2.1.c0;have y1:=h.out.2.2.1.c1;go_wp2_with fail
 with_reducible refine(zJh h (KF.out _ h.out.2.2.2)).mono ?_
 clear h x1 y1;rintro e w ⟨M,rfl,h⟩;have HLV:=zC h;obtain⟨B,hB⟩:∃B,B=w.heap.size:=⟨_,rfl⟩
 obtain⟨wo,hwo⟩:∃z,z=w.alloc (.cells (madeCells #[.int .i64 0] m2) 3):=⟨_,rfl⟩
 have hbo:Below B w wo:=by rw[hwo,hB];exact(zI _ _).alloc (zR _) _
 have hso:B<wo.heap.size:=by rw[hwo,hB];simp
 have hIR:Ir wo B m2 (fun _=>0):=by rw[hwo,hB];exact Ir.made w m2
 have x2:=h.out.2.2.1.c0;have y2:=h.out.2.2.1.c1;have y2o:=(hbo.cell (p:=⟨W.heap.size+1,1,none⟩) (by rw[hB];exact h.out.2.2.1.lt)).trans y2;have HBO:=zC hbo;clear h hbo;go_upto_region 8 with fail
 rw[←hwo,←hB];clear hwo hmk;have HBE:=zC hB;clear hB;go_wp2_with fail;go_loopw [33] (fun iv wr=>∃(i:Nat) (F:Nat→Int),iv=.int .i64 (i:Int)∧i≤m2∧Ir wr B m2 F∧Hid (∀j,j<i→F j=Fd.getD j 0)∧Below B w wr) (fun iv _=>m2-(intOf iv).toNat)
 case atStart=>exact⟨0,_,rfl,xJ _,hIR,zC (fun j hj=>by omega),HBO.out⟩
 case round=>
  obtain⟨i,F,rfl,hi,hR1,HF,hb⟩:=hrel;clear hIR x2 y2 y2o;have h:Lv (fun z=>Fst z M (L.map S).length (L.map S)∧Bx z (W.heap.size+1+1) none 0 0 none 0 0∧Bx z (W.heap.size+1) a2 n2 c2 b2 m2 d2∧Bx z W.heap.size a1 n1 c1 b1 m1 d1∧Below W.heap.size W z) wr:=xVf HLV.out (by rw[←HBE.out];exact hb) xQl;by_cases hil:i<m2
  · have e3:(i:Int)<(m2:Int):=by omega
    obtain⟨bb,off,rfl,hc⟩:=HS2.out.2 yEn;have hck:=(h.out.2.2.2.2.cell (p:=⟨bb,off+i,none⟩) (yU W _ (hc i hil))).trans (hc i hil);have hzi:=HZ2.out i hil;rw[yE8 (by rw[HL2.out];exact hil)]at hck hzi;have HA:=zC (HFA.out i hil);obtain⟨x,hx⟩:∃x,x=R.getD i 0:=⟨_,rfl⟩
    rw[←hx]at hck hzi HA;obtain⟨cc,hlk,hcc⟩:=yBa h.out.1 hzi;rw[yTg]at hcc;have y1:=h.out.2.2.2.1.c1;have yi:=hR1.cell (i:=i) hil;have fi:=hR1.frozen i;have HR3:=zC (fun v=>hR1.set i v);have HB3:=zC (fun v=>hb.setCell (p:=⟨B,i,none⟩) (zR B) (.int .i64 v));clear hc hx hzi hR1 hb h;by_cases hin:S x∈L.map S
    · have hd:@decide (S x∈L.map S) (Classical.propDecidable _)=true:=@decide_eq_true _ (Classical.propDecidable _) hin
      have hc2:=hcc hin;rw[hd,hc2]at hlk;have HC2:=zC hc2;obtain⟨tx,htx⟩:∃tx,tx=S x:=⟨_,rfl⟩
      rw[←htx]at hck hlk;obtain⟨f,hf⟩:∃f,f=fpS L x:=⟨_,rfl⟩
      rw[←hf]at hlk HA;clear hcc hin hd hc2 htx hf;go_wp2_with fail;go_roundw
      case rel=>exact⟨i+1,_,by go_num,by omega,HR3.out (f:Int),zC fun j hj=>by
       show(if j=i then(f:Int)else F j)=_;by_cases e:j=i
       · rw[yA e,e,HA.out]
       · rw[zY e];exact HF.out j yEn,HB3.out (f:Int)⟩
      case measure=>simp[intOf];omega
    · have hd:@decide (S x∈L.map S) (Classical.propDecidable _)=false:=@decide_eq_false _ (Classical.propDecidable _) hin
      rw[hd]at hlk;have hfn:fpS L x=m1:=by rw[←yTg,zEh hin,zD0];exact HL.out
      rw[hfn]at HA;obtain⟨tx,htx⟩:∃tx,tx=S x:=⟨_,rfl⟩
      rw[←htx]at hck hlk;clear hcc hin hd htx hfn;go_wp2_with fail;go_roundw
      case rel=>exact⟨i+1,_,by go_num,by omega,HR3.out (m1:Int),zC fun j hj=>by
       show(if j=i then(m1:Int)else F j)=_;by_cases e:j=i
       · rw[yA e,e,HA.out]
       · rw[zY e];exact HF.out j yEn,HB3.out (m1:Int)⟩
      case measure=>simp[intOf];omega
  · have e3:¬(i:Int)<(m2:Int):=by omega
    obtain rfl:i=m2:=by omega
    have hS:Sl wr (some ⟨B,0,none⟩) i Fd:=hR1.sl HFL.out fun j hj=>HF.out j hj;have KI:=zC (fun z (hb2:Below wr.heap.size wr z) (ht:WT z)=>yXc (some ⟨B,0,none⟩) i i Fd z (hS.below hb2) (fun j hj=>by
     rw[HFA.out j hj];have:=yMd L (R.getD j 0);rw[HL.out]at this;unfold I64;omega) yEn ht)
    have hh:Lv (fun z=>Bx z (W.heap.size+1+1) none 0 0 none 0 0∧Bx z (W.heap.size+1) a2 n2 c2 b2 i d2∧Below W.heap.size W z) wr:=⟨h.out.2.1,h.out.2.2.1,h.out.2.2.2.2⟩
    have KL:=zC (xJ3 a2 n2 c2 X wr (HSL.out.below h.out.2.2.2.2) yEn);clear hR1 hb h hS KF;have h:=hh;clear hh;have hfld:∀w x y,(Instr.field 25 (.agg #[x,y]) 1).run Tryz.prog w=.ok y w:=fun w x y=>by kernel_rfl
    have x2:=h.out.2.1.c0;have y2:=h.out.2.1.c1;go_wp2_with fail;refine KL.out.mono ?_;rintro e w5 ⟨ca,cc,rfl,hoc,hb5⟩;replace h:=xVf h hb5;have HOC:=zC hoc;have KI2:=zC (KI.out w5 hb5 (KW.out _ h.out.2.2));clear hoc hb5 x2 y2 KI KL;go_wp2_with fail;refine KI2.out.mono ?_;rintro e w6 ⟨ai,ni,ci,bi,mi,di,rfl,hv,hc,hb6⟩;replace h:=xVf h hb6;have HO6:=zC (zLe HOC.out hb6);have HV:=zC (And.intro hv hc);clear hb6 KI2 HOC hv hc;have y0:=h.out.1.c0;have y3:=h.out.1.c1;have f0:=h.out.1.f 0;have f1:=h.out.1.f 1;go_wp2_with fail;have hR:=h.out.1.set ca n2 cc bi mi di;have r0:=hR.c0;have r1:=hR.c1;have hmi:mi=i:=by have:=HV.out.1.t.1;rw[zD0,HFL.out]at this;omega
    exact zE (v:=.tuple #[.agg #[.slice ca n2 cc,.slice bi mi di],.int .i64 0]) zWm rfl
     (xM3 (r:=(some (X,Fd),0)) h.out.1 h.out.2.2 yEn ⟨zYf HO6.out,HV.out.1.t,HV.out.1.mm⟩ ⟨(xE8 HO6.out).1,(xE8 HO6.out).2,HV.out.2.md,HV.out.2.dm⟩ HR.out)
theorem yIa {a1 b1 a2 b2:Option Addr} {n1 c1 m1 d1 n2 c2 m2 d2:Nat} {l m:List Int} {es fs:List ByteArray} {W:World} {o p:Option Ar} (h1:Av W a1 n1 c1 b1 m1 d1 l es o) (h2:Av W a2 n2 c2 b2 m2 d2 m fs p) (hW:WT W):
 Calls Tryz.prog 76 #[.agg #[.slice a1 n1 c1,.slice b1 m1 d1],.agg #[.slice a2 n2 c2,.slice b2 m2 d2]] W (xL3 (fdK o p) W):=by
 cases p with
 |none=>
  have e:fdK o none=(none,1):=by cases o<;>rfl
  rw[e];exact yFa (l:=l) (es:=es) h2
 |some r=>
  by_cases hv:vcE o=0
  · obtain⟨q,rfl,hl⟩:=zUa hv
    have e:fdK (some q) (some r)=(some (r.1,r.2.map fun x=>(fpS q.2 x:Int)),0):=by
     unfold fdK;dsimp only;rw[zY (fun e=>e hl)]
    rw[e];exact yHa h1 h2 hW hv
  · have e:fdK o (some r)=(none,vcE o):=by
     cases o with
     |none=>rfl
     |some v=>
      unfold vcE at hv ⊢;unfold fdK;dsimp only at hv ⊢
      by_cases hl:v.1.length≠1
      · rw[yA hl,yA hl]
      · rw[zY hl]at hv;exact absurd rfl hv
    rw[e];exact yGa h1 h2 hv
end Go.Proofs.YtcfbjdplhgdpfaaGreatDoor

import Derived.Test.YtcfbjdplhgdpfaaGreatDoorTbe
set_option maxHeartbeats 3200000
set_option maxRecDepth 100000
namespace Go.Proofs.YtcfbjdplhgdpfaaGreatDoor
set_option linter.unusedVariables false
set_option linter.unusedSimpArgs false
theorem zMm {P:Prop}(h:P:=by simp[results,Tryz.results24,go_sem,r0,r1]):P:=h
theorem zLm {P:Prop}(h:P:=by simp[results,Tryz.results23,go_sem,r0,r1]):P:=h
theorem zKm {P:Prop}(h:P:=by simp[results,Tryz.results22,go_sem,r0,r1]):P:=h
theorem zJm {P:Prop}(h:P:=by simp[results,Tryz.results21,go_sem,r0,r1]):P:=h
theorem xLl {P:Prop}(h:P:=by repeat' (first|exact hq|refine zU ?_|refine zSf ?_ _|refine zV ?_ ?_ _|exact hqz|exact zR _|omega|(simp;done)|(simp;omega))):P:=h
abbrev yG:=@Go.World.setCell_alloc_past
open Go.RowKit
theorem xT2 {P:World→Prop} {w w':World} {B:Nat} (h:Lv P w) (hb:Below B w w') (hB:w.heap.size≤B)
 (hs:Stb P:=by repeat' (first|exact Stb.bel _|exact Stb.bx|exact Stb.vl|refine Stb.and ?_ ?_|exact Stb.triv)):Lv P w':=⟨hs _ _ h.out (hb.mono hB)⟩
theorem xU2 {a1 b1:Option Addr} {n1 c1 m1 d1:Nat} {l:List Int} {es:List ByteArray} {W:World} (h1:Av W a1 n1 c1 b1 m1 d1 l es none):
 Calls Tryz.prog 21 #[.agg #[.slice a1 n1 c1,.slice b1 m1 d1]] W (xL3 (none,1) W):=by
 have KV:=zC (fun w (hb:Below W.heap.size W w)=>zM4 (h1.below hb));clear h1;have h:=xO3 W a1 n1 c1 b1 m1 d1;go_in;have x1:=h.out.2.1.c0;have y1:=h.out.2.1.c1;go_wp2_with fail
 with_reducible refine(yMf h (KV.out _ h.out.2.2)).mono ?_
 clear h x1 y1;rintro e w ⟨rfl,h⟩;have y0:=h.out.1.c0;have y3:=h.out.1.c1;have f0:=h.out.1.f 0;have f1:=h.out.1.f 1;go_wp2_with fail;have hR:=h.out.1.set none 0 0 none 0 0;have r0:=hR.c0;have r1:=hR.c1;exact zE (v:=.tuple #[.agg #[.slice none 0 0,.slice none 0 0],.int .i64 1]) zJm rfl (xN3 h.out.1 h.out.2.2 yEn)
theorem xV2 {a1 b1:Option Addr} {n1 c1 m1 d1:Nat} {l:List Int} {es:List ByteArray} {W:World} {q:Ar} (h1:Av W a1 n1 c1 b1 m1 d1 l es (some q)) (he:(inM q).2≠0):
 Calls Tryz.prog 21 #[.agg #[.slice a1 n1 c1,.slice b1 m1 d1]] W (xL3 (none,(inM q).2) W):=by
 have KV:=zC (fun w (hb:Below W.heap.size W w)=>zM4 (h1.below hb));have KI:=zC (fun w (hb:Below W.heap.size W w)=>zT4 (h1.below hb));clear h1;generalize (inM q).1=x at*;generalize (inM q).2=k at*;have hk:(k != 0)=true:=by simpa using he
 have h:=xO3 W a1 n1 c1 b1 m1 d1;go_in;have x1:=h.out.2.1.c0;have y1:=h.out.2.1.c1;go_wp2_with fail
 with_reducible refine(yMf h (KV.out _ h.out.2.2)).mono ?_
 clear h x1 y1;rintro e w ⟨rfl,h⟩;have x1:=h.out.2.1.c0;have y1:=h.out.2.1.c1;go_wp2_with fail
 with_reducible refine(yMf h (KI.out _ h.out.2.2)).mono ?_
 clear h x1 y1;rintro e w ⟨rfl,h⟩;have y0:=h.out.1.c0;have y3:=h.out.1.c1;have f0:=h.out.1.f 0;have f1:=h.out.1.f 1;go_wp2_with fail;have hR:=h.out.1.set none 0 0 none 0 0;have r0:=hR.c0;have r1:=hR.c1;exact zE (v:=.tuple #[.agg #[.slice none 0 0,.slice none 0 0],.int .i64 k]) zJm rfl (xN3 h.out.1 h.out.2.2 yEn)
theorem xW2 {a1 b1:Option Addr} {n1 c1 m1 d1:Nat} {l:List Int} {es:List ByteArray} {W:World} {q:Ar} (h1:Av W a1 n1 c1 b1 m1 d1 l es (some q)) (he:(inM q).2=0) (hx:(inM q).1<0):
 Calls Tryz.prog 21 #[.agg #[.slice a1 n1 c1,.slice b1 m1 d1]] W (xL3 (none,5) W):=by
 have KV:=zC (fun w (hb:Below W.heap.size W w)=>zM4 (h1.below hb));have KI:=zC (fun w (hb:Below W.heap.size W w)=>zT4 (h1.below hb));rw[he]at KI;clear h1 he;generalize (inM q).1=x at*;have h:=xO3 W a1 n1 c1 b1 m1 d1;go_in;have x1:=h.out.2.1.c0;have y1:=h.out.2.1.c1;go_wp2_with fail
 with_reducible refine(yMf h (KV.out _ h.out.2.2)).mono ?_
 clear h x1 y1;rintro e w ⟨rfl,h⟩;have x1:=h.out.2.1.c0;have y1:=h.out.2.1.c1;go_wp2_with fail
 with_reducible refine(yMf h (KI.out _ h.out.2.2)).mono ?_
 clear h x1 y1;rintro e w ⟨rfl,h⟩;have y0:=h.out.1.c0;have y3:=h.out.1.c1;have f0:=h.out.1.f 0;have f1:=h.out.1.f 1;go_wp2_with fail;have hR:=h.out.1.set none 0 0 none 0 0;have r0:=hR.c0;have r1:=hR.c1;exact zE (v:=.tuple #[.agg #[.slice none 0 0,.slice none 0 0],.int .i64 5]) zJm rfl (xN3 h.out.1 h.out.2.2 yEn)
theorem xX2 {a1 b1:Option Addr} {n1 c1 m1 d1:Nat} {l:List Int} {es:List ByteArray} {W:World} {q:Ar} (h1:Av W a1 n1 c1 b1 m1 d1 l es (some q)) (he:(inM q).2=0) (hx:4096<(inM q).1):
 Calls Tryz.prog 21 #[.agg #[.slice a1 n1 c1,.slice b1 m1 d1]] W (xL3 (none,8) W):=by
 have KV:=zC (fun w (hb:Below W.heap.size W w)=>zM4 (h1.below hb));have KI:=zC (fun w (hb:Below W.heap.size W w)=>zT4 (h1.below hb));rw[he]at KI;clear h1 he;generalize (inM q).1=x at*;have h0:¬(x<0):=by omega
 have h:=xO3 W a1 n1 c1 b1 m1 d1;go_in;have x1:=h.out.2.1.c0;have y1:=h.out.2.1.c1;go_wp2_with fail
 with_reducible refine(yMf h (KV.out _ h.out.2.2)).mono ?_
 clear h x1 y1;rintro e w ⟨rfl,h⟩;have x1:=h.out.2.1.c0;have y1:=h.out.2.1.c1;go_wp2_with fail
 with_reducible refine(yMf h (KI.out _ h.out.2.2)).mono ?_
 clear h x1 y1;rintro e w ⟨rfl,h⟩;have y0:=h.out.1.c0;have y3:=h.out.1.c1;have f0:=h.out.1.f 0;have f1:=h.out.1.f 1;go_wp2_with fail;have hR:=h.out.1.set none 0 0 none 0 0;have r0:=hR.c0;have r1:=hR.c1;exact zE (v:=.tuple #[.agg #[.slice none 0 0,.slice none 0 0],.int .i64 8]) zJm rfl (xN3 h.out.1 h.out.2.2 yEn)
theorem xY2 (w:World) (x:Int):Sl (w.alloc (.cells #[.int .i64 x] 3)) (some ⟨w.heap.size,0,none⟩) 1 [x]:=zYf (yKb w x)
theorem xZ2 {ops:Array Oper} {o:Oper} {a:Act} {K:Act→World→Prop} {Q:Exit→Act→World→Prop} {E:Prop} {w:World} (wr:World) (B:Nat) (s x:Operand) (av:Option Addr) (n cv:Nat) (xs:List Value) (v:ByteArray)
 (ho:o.op=.call {callee:=.builtin .append,args:=#[s,x],argTypes:=#[23,23]}) (hgd:o.guard=none)
 (hs:a.eval s=.slice av n cv) (hx:a.eval x=.slice (some ⟨wr.heap.size,0,none⟩) 1 1) (hh:w.heap=wr.heap.push (.cells #[.string v] 9)) (h1:w.os=wr.os) (h2:w.tape=wr.tape) (h3:w.output=wr.output)
 (hown:wr.ownsRow B 9 1 (.slice av n cv) n xs) (hsz:B≤wr.heap.size) (hn:n≤100000)
 (h:∀av' cv' w',w'.ownsRow B 9 1 (.slice av' (n+1) cv') (n+1) (xs++[.string v])→Below B wr w'→K (a.put o.dst (.slice av' (n+1) cv')) w'):
 if Region.wanted o (yielded ops a.tmps)=true then Oper.wp Tryz.prog o a w K Q else E:=by
 obtain⟨i0,hi,hz0,hz1,hz2⟩:=zF xC4;have hown2:w.ownsRow B 9 1 (.slice av n cv) n xs:=by
  have h4:=hown.alloc (.cells #[.string v] 9);unfold World.ownsRow at h4 ⊢;rw[hh];exact h4
 have hb2:Below B wr w:=by
  have h4:=(zI B wr).alloc hsz (.cells #[.string v] 9);exact⟨h1,h2,h3,by rw[hh];exact h4.size,fun k hk=>by rw[hh];exact h4.block k hk⟩
 refine zJ w hgd s x 23 ho B 9 i0 (.string ⟨#[]⟩) 1 16 Tryz.underlying23 hi hz0 hz1 hz2 rfl yCn _ _ _ hs hown2 ⟨wr.heap.size,0,none⟩ 1 1 [.string v] hx rfl ?_ ?_ yCn xXm yEn zNn _ rfl ?_
 · exact zL (t:=9) (fr:=(0,0)) (cs:=#[.string v]) zVn
 · intro u hu
   rw[zM]at hu;rw[hu];rfl
 · intro g cap w' o1 o2 _ _
   exact h _ _ w' o1 (hb2.grown o2 zNn (fun q hq=>(hown2.lt q hq).1))
theorem zA3 (xs:List Int) (x:Int):zTf ((xs++[x]).map S)=zTf (xs.map S)++[.string (S x)]:=by rw[zN];exact yQf _ _
theorem zB3 (k:Nat):upM (k+1)=upM k++[(k:Int)]:=by simp[upM,zO]
theorem zC3 {a1 b1:Option Addr} {n1 c1 m1 d1:Nat} {l:List Int} {es:List ByteArray} {W:World} {q:Ar} {t:Nat} (h1:Av W a1 n1 c1 b1 m1 d1 l es (some q)) (he:inM q=((t:Int),0)) (ht:t≤4096):
 Calls Tryz.prog 21 #[.agg #[.slice a1 n1 c1,.slice b1 m1 d1]] W (xL3 (some ([(t:Int)],upM t),0) W):=by
 have KV:=zC (fun w (hb:Below W.heap.size W w)=>zM4 (h1.below hb));have KI:=zC (fun w (hb:Below W.heap.size W w)=>zT4 (h1.below hb));rw[he]at KI;have KT:=zC (fun(k:Nat) (hk:k<t) w=>zN4 (x:=(k:Int)) (by unfold I64;omega) w);have HR0:=zC (zFg ht);have hx0:¬((t:Int)<0):=by omega
 have hx1:¬((4096:Int)<(t:Int)):=by omega
 clear h1 he;have h:=xO3 W a1 n1 c1 b1 m1 d1;go_in;have x1:=h.out.2.1.c0;have y1:=h.out.2.1.c1;go_wp2_with fail
 with_reducible refine(yMf h (KV.out _ h.out.2.2)).mono ?_
 clear h x1 y1;rintro e w ⟨rfl,h⟩;have x1:=h.out.2.1.c0;have y1:=h.out.2.1.c1;go_wp2_with fail
 with_reducible refine(yMf h (KI.out _ h.out.2.2)).mono ?_
 clear h x1 y1;rintro e w ⟨rfl,h⟩;go_wp2_with fail;have hA:Below w.heap.size w (w.alloc (.cells #[.int .i64 (t:Int)] 3)):=(zI _ _).alloc (zR _) _;have HS:=zC (xY2 w (t:Int));have hO:=Bx.newG (w.alloc (.cells #[.int .i64 (t:Int)] 3)) (w.heap.size+1) yHn (some ⟨w.heap.size,0,none⟩) 1 1 none 0 0;have hbO:Below (w.heap.size+1) (w.alloc (.cells #[.int .i64 (t:Int)] 3)) ((w.alloc (.cells #[.int .i64 (t:Int)] 3)).alloc (.cells #[.slice (some ⟨w.heap.size,0,none⟩) 1 1,.slice none 0 0] 25)):=(zI _ _).alloc yHn _;replace h:=zC (xT2 h hA (zR _));clear hA;go_loopw [7] (fun iv wr=>∃(k:Nat) (av:Option Addr) (cv:Nat),iv=.int .i64 k∧k≤t∧Bx wr (w.heap.size+1) (some ⟨w.heap.size,0,none⟩) 1 1 av k cv∧wr.ownsRow (w.heap.size+1+1) 9 1 (.slice av k cv) k (zTf ((upM k).map S))∧Below (w.heap.size+1) (w.alloc (.cells #[.int .i64 (t:Int)] 3)) wr) (fun iv _=>t-(intOf iv).toNat)
 case atStart=>exact⟨0,none,0,rfl,by omega,hO,zT _ _ _ _,hbO⟩
 case round=>
  obtain⟨k,av,cv,rfl,hk,hO1,ho1,hb1⟩:=hrel;clear hO hbO;by_cases hlt:k<t
  · have e2:(k:Int)<(t:Int):=by omega
    have Q1:=KT.out k hlt;have HN:=zC (show zTf ((upM (k+1)).map S)=zTf ((upM k).map S)++[.string (S ((k:Int)))]by rw[zB3];exact zA3 _ _);generalize S ((k:Int))=tx at*;have HQ:Hid (∀z,Below wr.heap.size wr z→Calls Tryz.prog 61 #[.int .i64 ((k:Int))] z fun e w'=>e=.returned (.string tx)∧Below wr.heap.size wr w'):=zC fun z hz=>(Q1 z).mono fun e w' h=>⟨h.1,hz.trans (h.2.mono hz.size)⟩
    have u1:=hO1.c1;have lO:=hO1.lt;have HO:=zC hO1;have HR:=zC ho1;have HB:=zC hb1;clear hO1 ho1 hb1 Q1;have hq:Below wr.heap.size wr wr:=zI _ _;have hqz:=hq.size;have wq0:∃z,z=wr:=⟨_,rfl⟩
    obtain⟨wq,hwq⟩:=wq0;go_wp2_with fail;go_region_law (first|(go_simp;go_at_call 61;refine(HQ.out _ xLl).mono ?_;rintro e wq ⟨rfl,hq⟩;have hqz:=hq.size;have u2:=(HO.out.below hq lO).c1;have l2:=(HO.out.below hq lO).lt;have u3:=((HO.out.below hq lO).alloc (.cells #[.string tx] 9)).c1)|(refine xZ2 wq (w.heap.size+1+1) (.tmp 36) (.tmp 39) av k cv (zTf ((upM k).map S)) tx rfl rfl rfl rfl rfl rfl rfl rfl (zLe HR.out hq) yEn yEn ?_;intro av' cv' w9 hown9 hb9;have hO9:=HO.out.below ((hq.mono yEn).trans hb9) yEn;have z1:=hO9.c1;have g2:=hO9.f 1))
    all_goals
     rw[←HN.out]at hown9;have hb10:=HB.out.trans (((hq.mono yEn).trans hb9).mono yEn);have hO11:=zC (hO9.set1 av' (k+1) cv');have hr11:=zC (yRf hown9 (p:=⟨w.heap.size+1,1,none⟩) (zW _) (.slice av' (k+1) cv'));have hb11:=zC (hb10.setCell (p:=⟨w.heap.size+1,1,none⟩) (zR _) (.slice av' (k+1) cv'));clear hO9 hb9 hown9 hb10 u1 z1 g2 hq HO HR HB;go_wp2_with fail;go_roundw
     case rel=>exact⟨k+1,av',cv',by go_num,by omega,hO11.out,hr11.out,hb11.out⟩
     case measure=>simp[intOf];omega
  · have e2:¬(k:Int)<(t:Int):=by omega
    obtain rfl:k=t:=by omega
    have x0:=hO1.c0;have x1:=hO1.c1;replace h:=xT2 h.out hb1 yHn;have hvl:=zC (show Vl wr (some ⟨w.heap.size,0,none⟩) 1 av k [(k:Int)] ((upM k).map S)from⟨HS.out.below (hb1.mono yHn),zZf ho1,by omega⟩);have hcp:=zC (show Cp 1 1 k cv from⟨zR _,by unfold maxLen;omega,(xE8 ho1).1,(xE8 ho1).2⟩);clear hO1 ho1 hb1;have y0:=h.out.1.c0;have y3:=h.out.1.c1;have f0:=h.out.1.f 0;have f1:=h.out.1.f 1;go_wp2_with fail;have hR:=h.out.1.set (some ⟨w.heap.size,0,none⟩) 1 1 av k cv;have r0:=hR.c0;have r1:=hR.c1;exact zE (v:=.tuple #[.agg #[.slice (some ⟨w.heap.size,0,none⟩) 1 1,.slice av k cv],.int .i64 0]) zJm rfl (xM3 (r:=(some ([(k:Int)],upM k),0)) h.out.1 h.out.2.2 yEn hvl.out hcp.out HR0.out)
theorem zD3 {a1 b1:Option Addr} {n1 c1 m1 d1:Nat} {l:List Int} {es:List ByteArray} {W:World} {o:Option Ar} (h1:Av W a1 n1 c1 b1 m1 d1 l es o):Calls Tryz.prog 21 #[.agg #[.slice a1 n1 c1,.slice b1 m1 d1]] W (xL3 (ioM o) W):=by
 cases o with
 |none=>exact xU2 h1
 |some q=>
  by_cases he:(inM q).2=0
  · by_cases h0:(inM q).1<0
    · have e:ioM (some q)=(none,5):=by unfold ioM;dsimp only;rw[zY (fun h=>h he),yA h0]
      rw[e];exact xW2 h1 he h0
    · by_cases h4:4096<(inM q).1
      · have e:ioM (some q)=(none,8):=by unfold ioM;dsimp only;rw[zY (fun h=>h he),zY h0,yA h4]
        rw[e];exact xX2 h1 he h4
      · obtain⟨t,ht⟩:∃t:Nat,(inM q).1=(t:Int):=⟨(inM q).1.toNat,by omega⟩
        have e:ioM (some q)=(some ([(t:Int)],upM t),0):=by
         unfold ioM;dsimp only;rw[zY (fun h=>h he),zY h0,zY h4,ht,yB]
        rw[e];exact zC3 h1 (yC ht he) yEn
  · have e:ioM (some q)=(none,(inM q).2):=by unfold ioM;dsimp only;rw[yA he]
    rw[e];exact xV2 h1 he
theorem zE3 {P:World→Prop} {w:World} {f:FuncId} {args:Array Value} {v:Int} {l:List Int} (h:Lv P w) (hc:Calls Tryz.prog f args w (yX9 v l w))
 (hs:Stb P:=by repeat' (first|exact Stb.bel _|exact Stb.bx|exact Stb.vl|refine Stb.and ?_ ?_|exact Stb.triv)):
 Calls Tryz.prog f args w fun e w'=>∃a n c,e=.returned (.tuple #[.int .i64 v,.slice a n c])∧Lv P w'∧Sl w' a n l∧n≤20:=
 hc.mono fun _ _ ⟨a,n,c,h1,h2,h3,h4⟩=>⟨a,n,c,h1,⟨hs _ _ h.out h4⟩,h2,h3⟩
theorem zF3 (w:World) (s:ByteArray):(w.alloc (.cells #[.string s] 9)).ownsRow w.heap.size 9 1 (.slice (some ⟨w.heap.size,0,none⟩) 1 1) 1 (zTf [s]):=
 ⟨rfl,.inr ⟨w.heap.size,1,#[.string s],rfl,zR _,yE w _,zR _,by unfold maxLen;omega,rfl,rfl⟩⟩
theorem zG3 {a1 b1:Option Addr} {n1 c1 m1 d1:Nat} {l:List Int} {es:List ByteArray} {W:World} (h1:Av W a1 n1 c1 b1 m1 d1 l es none):
 Calls Tryz.prog 22 #[.agg #[.slice a1 n1 c1,.slice b1 m1 d1]] W (xL3 (none,1) W):=by
 have KV:=zC (fun w (hb:Below W.heap.size W w)=>zM4 (h1.below hb));clear h1;have h:=xO3 W a1 n1 c1 b1 m1 d1;go_in;have x1:=h.out.2.1.c0;have y1:=h.out.2.1.c1;go_wp2_with fail
 with_reducible refine(yMf h (KV.out _ h.out.2.2)).mono ?_
 clear h x1 y1;rintro e w ⟨rfl,h⟩;have y0:=h.out.1.c0;have y3:=h.out.1.c1;have f0:=h.out.1.f 0;have f1:=h.out.1.f 1;go_wp2_with fail;have hR:=h.out.1.set none 0 0 none 0 0;have r0:=hR.c0;have r1:=hR.c1;exact zE (v:=.tuple #[.agg #[.slice none 0 0,.slice none 0 0],.int .i64 1]) zKm rfl (xN3 h.out.1 h.out.2.2 yEn)
theorem zH3 {a1 b1:Option Addr} {n1 c1 m1 d1:Nat} {l:List Int} {es:List ByteArray} {W:World} {q:Ar} (h1:Av W a1 n1 c1 b1 m1 d1 l es (some q)):
 Calls Tryz.prog 22 #[.agg #[.slice a1 n1 c1,.slice b1 m1 d1]] W (xL3 (some ([],[(mN l:Int)]),0) W):=by
 have KV:=zC (fun w (hb:Below W.heap.size W w)=>zM4 (h1.below hb));have hb:=h1.items.2.2.1;have hn3:=h1.n3;have KM:=fun w (hb:Below W.heap.size W w)=>zAi a1 n1 c1 l w (h1.v.s.below hb) yEn h1.c.1 h1.c.2;rw[←h1.items.2.1]at KM;replace KM:=zC KM;have KT:=zC (fun w=>zN4 (x:=(mN l:Int)) (by unfold I64;omega) w);have HR:Hid (Rok (some ([],[(mN l:Int)]))):=zC ⟨(by decide:szE []=0),(rfl:((1:Nat):Int)=pr []),fun x hx=>by
  rw[zM]at hx;exact yF (show x.natAbs<10000000000000000000000 by omega) xBk⟩
 clear h1 hb hn3;generalize mN l=N at*;have h:=xO3 W a1 n1 c1 b1 m1 d1;go_in;have x1:=h.out.2.1.c0;have y1:=h.out.2.1.c1;go_wp2_with fail
 with_reducible refine(yMf h (KV.out _ h.out.2.2)).mono ?_
 clear h x1 y1;rintro e w ⟨rfl,h⟩;have x1:=h.out.2.1.c0;go_wp2_with fail
 with_reducible refine(zE3 h (KM.out _ h.out.2.2)).mono ?_
 clear h x1;rintro e w ⟨ar,nr,cr,rfl,h,_,_⟩;go_wp2_with fail
 with_reducible refine(yMf h (KT.out _)).mono ?_
 clear h;rintro e w ⟨rfl,h⟩;have y0:=h.out.1.c0;have y3:=h.out.1.c1;have f0:=h.out.1.f 0;have f1:=h.out.1.f 1;have l0:=h.out.1.lt;go_wp2_with fail;have hA:Below w.heap.size w (w.alloc (.cells #[.string (S (N:Int))] 9)):=(zI _ _).alloc (zR _) _;have hx:=zF3 w (S (N:Int));replace h:=xVf h hA;have hR:=h.out.1.set none 0 0 (some ⟨w.heap.size,0,none⟩) 1 1;have r0:=hR.c0;have r1:=hR.c1;have hE:=xM3 (a:=none) (n:=0) (c:=0) (b:=some ⟨w.heap.size,0,none⟩) (m:=1) (d:=1) (r:=(some ([],[(N:Int)]),0)) h.out.1 h.out.2.2 yEn ⟨Sl.nil _ _,zZf hx,by omega⟩ ⟨by omega,by unfold maxLen;omega,by omega,by unfold maxLen;omega⟩ HR.out;rw[yG (hn:=l0),yG (hn:=by simpa using l0)]at hE r0 r1;exact zE (v:=.tuple #[.agg #[.slice none 0 0,.slice (some ⟨w.heap.size,0,none⟩) 1 1],.int .i64 0]) zKm rfl hE
theorem zI3 {a1 b1:Option Addr} {n1 c1 m1 d1:Nat} {l:List Int} {es:List ByteArray} {W:World} {o:Option Ar} (h1:Av W a1 n1 c1 b1 m1 d1 l es o):Calls Tryz.prog 22 #[.agg #[.slice a1 n1 c1,.slice b1 m1 d1]] W (xL3 (taM o) W):=by
 cases o with
 |none=>exact zG3 h1
 |some q=>
  have e:taM (some q)=(some ([],[(mN l:Int)]),0):=by rw[h1.items.2.1,←h1.fst];rfl
  rw[e];exact zH3 h1
theorem zJ3 {a1 b1:Option Addr} {n1 c1 m1 d1:Nat} {l:List Int} {es:List ByteArray} {W:World} (h1:Av W a1 n1 c1 b1 m1 d1 l es none):
 Calls Tryz.prog 23 #[.agg #[.slice a1 n1 c1,.slice b1 m1 d1]] W (xL3 (none,1) W):=by
 have KV:=zC (fun w (hb:Below W.heap.size W w)=>zM4 (h1.below hb));clear h1;have h:=xO3 W a1 n1 c1 b1 m1 d1;go_in;have x1:=h.out.2.1.c0;have y1:=h.out.2.1.c1;go_wp2_with fail
 with_reducible refine(yMf h (KV.out _ h.out.2.2)).mono ?_
 clear h x1 y1;rintro e w ⟨rfl,h⟩;have y0:=h.out.1.c0;have y3:=h.out.1.c1;have f0:=h.out.1.f 0;have f1:=h.out.1.f 1;go_wp2_with fail;have hR:=h.out.1.set none 0 0 none 0 0;have r0:=hR.c0;have r1:=hR.c1;exact zE (v:=.tuple #[.agg #[.slice none 0 0,.slice none 0 0],.int .i64 1]) zLm rfl (xN3 h.out.1 h.out.2.2 yEn)
theorem zK3 {l:List Int} {k:Nat} (hk:k<l.length):l.take (k+1)=l.take k++[l.getD k 0]:=by
 rw[yH,yJ,yM hk];rfl
theorem zL3 {a1 b1:Option Addr} {n1 c1 m1 d1:Nat} {l:List Int} {es:List ByteArray} {W:World} {q:Ar} (h1:Av W a1 n1 c1 b1 m1 d1 l es (some q)):
 Calls Tryz.prog 23 #[.agg #[.slice a1 n1 c1,.slice b1 m1 d1]] W (xL3 (some ([(n1:Int)],l),0) W):=by
 have KV:=zC (fun w (hb:Below W.heap.size W w)=>zM4 (h1.below hb));have hmay:=yE9.1 h1.sz;have hl:=h1.v.s.1;have hn3:=h1.n3;have KT:=zC (fun(k:Nat) (hk:k<n1) w=>zN4 (x:=l.getD k 0) (by have:=hmay.nn k yEn;have:=hmay.le k yEn;unfold I64;omega) w);have HV:=zC h1.v.s;have HR0:=zC (zDg (t:=n1) (xs:=l) zEn hl fun x hx=>by
  obtain⟨j,hj,rfl⟩:=yP hx;have e1:=hmay.nn j hj;have e2:=hmay.le j hj;rw[yJ,yM hj,yS]at e1 e2;exact zEg yEn)
 clear h1 hmay hl;have h:=xO3 W a1 n1 c1 b1 m1 d1;go_in;have x1:=h.out.2.1.c0;have y1:=h.out.2.1.c1;go_wp2_with fail
 with_reducible refine(yMf h (KV.out _ h.out.2.2)).mono ?_
 clear h x1 y1;rintro e w ⟨rfl,h⟩;have x1:=h.out.2.1.c0;go_wp2_with fail;have hA:Below w.heap.size w (w.alloc (.cells #[.int .i64 (n1:Int)] 3)):=(zI _ _).alloc (zR _) _;have HS:=zC (xY2 w (n1:Int));have hO:=Bx.newG (w.alloc (.cells #[.int .i64 (n1:Int)] 3)) (w.heap.size+1) yHn (some ⟨w.heap.size,0,none⟩) 1 1 none 0 0;have hbO:Below (w.heap.size+1) (w.alloc (.cells #[.int .i64 (n1:Int)] 3)) ((w.alloc (.cells #[.int .i64 (n1:Int)] 3)).alloc (.cells #[.slice (some ⟨w.heap.size,0,none⟩) 1 1,.slice none 0 0] 25)):=(zI _ _).alloc yHn _;replace h:=zC (xT2 h hA (zR _));clear hA x1;go_loopw [5] (fun iv wr=>∃(k:Nat) (av:Option Addr) (cv:Nat),iv=.int .i64 k∧k≤n1∧Bx wr (w.heap.size+1) (some ⟨w.heap.size,0,none⟩) 1 1 av k cv∧wr.ownsRow (w.heap.size+1+1) 9 1 (.slice av k cv) k (zTf ((l.take k).map S))∧Below (w.heap.size+1) (w.alloc (.cells #[.int .i64 (n1:Int)] 3)) wr) (fun iv _=>n1-(intOf iv).toNat)
 case atStart=>exact⟨0,none,0,rfl,by omega,hO,zT _ _ _ _,hbO⟩
 case round=>
  obtain⟨k,av,cv,rfl,hk,hO1,ho1,hb1⟩:=hrel;clear hO hbO;have hh:=xT2 h.out hb1 yHn;have x1:=hh.out.2.1.c0;have lv:=hh.out.2.1.lt;by_cases hlt:k<n1
  · have e2:(k:Int)<(n1:Int):=by omega
    have Q1:=KT.out k hlt;have HN:=zC (show zTf ((l.take (k+1)).map S)=zTf ((l.take k).map S)++[.string (S (l.getD k 0))]by rw[zK3 (by rw[HV.out.1];exact hlt)];exact zA3 _ _);obtain⟨bb,off,rfl,hc⟩:=HV.out.2 yEn;have hck:=(hh.out.2.2.cell (p:=⟨bb,off+k,none⟩) (yU W _ (hc k hlt))).trans (hc k hlt);generalize l.getD k 0=x at*;clear hc hh;generalize S (x)=tx at*;have HQ:Hid (∀z,Below wr.heap.size wr z→Calls Tryz.prog 61 #[.int .i64 (x)] z fun e w'=>e=.returned (.string tx)∧Below wr.heap.size wr w'):=zC fun z hz=>(Q1 z).mono fun e w' h=>⟨h.1,hz.trans (h.2.mono hz.size)⟩
    have u1:=hO1.c1;have lO:=hO1.lt;have HO:=zC hO1;have HR:=zC ho1;have HB:=zC hb1;clear hO1 ho1 hb1 Q1;have hq:Below wr.heap.size wr wr:=zI _ _;have hqz:=hq.size;have wq0:∃z,z=wr:=⟨_,rfl⟩
    obtain⟨wq,hwq⟩:=wq0;go_wp2_with fail;go_region_law (first|(go_simp;go_at_call 61;refine(HQ.out _ xLl).mono ?_;rintro e wq ⟨rfl,hq⟩;have hqz:=hq.size;have u2:=(HO.out.below hq lO).c1;have l2:=(HO.out.below hq lO).lt;have u3:=((HO.out.below hq lO).alloc (.cells #[.string tx] 9)).c1)|(refine xZ2 wq (w.heap.size+1+1) (.tmp 23) (.tmp 30) av k cv (zTf ((l.take k).map S)) tx rfl rfl rfl rfl rfl rfl rfl rfl (zLe HR.out hq) yEn yEn ?_;intro av' cv' w9 hown9 hb9;have hO9:=HO.out.below ((hq.mono yEn).trans hb9) yEn;have z1:=hO9.c1;have g2:=hO9.f 1))
    all_goals
     rw[←HN.out]at hown9;have hb10:=HB.out.trans (((hq.mono yEn).trans hb9).mono yEn);have hO11:=zC (hO9.set1 av' (k+1) cv');have hr11:=zC (yRf hown9 (p:=⟨w.heap.size+1,1,none⟩) (zW _) (.slice av' (k+1) cv'));have hb11:=zC (hb10.setCell (p:=⟨w.heap.size+1,1,none⟩) (zR _) (.slice av' (k+1) cv'));clear hO9 hb9 hown9 hb10 u1 z1 g2 hq HO HR HB;go_wp2_with fail;go_roundw
     case rel=>exact⟨k+1,av',cv',by go_num,by omega,hO11.out,hr11.out,hb11.out⟩
     case measure=>simp[intOf];omega
  · have e2:¬(k:Int)<(n1:Int):=by omega
    obtain rfl:k=n1:=by omega
    have x0:=hO1.c0;have x1:=hO1.c1;replace h:=xT2 h.out hb1 yHn;have hvl:=zC (show Vl wr (some ⟨w.heap.size,0,none⟩) 1 av k [(k:Int)] ((l.take k).map S)from⟨HS.out.below (hb1.mono yHn),zZf ho1,by omega⟩);have hcp:=zC (show Cp 1 1 k cv from⟨zR _,by unfold maxLen;omega,(xE8 ho1).1,(xE8 ho1).2⟩);clear hO1 ho1 hb1;have y0:=h.out.1.c0;have y3:=h.out.1.c1;have f0:=h.out.1.f 0;have f1:=h.out.1.f 1;go_wp2_with fail;have hR:=h.out.1.set (some ⟨w.heap.size,0,none⟩) 1 1 av k cv;have r0:=hR.c0;have r1:=hR.c1;rw[yW (by rw[HV.out.1];exact zR _)]at hvl;exact zE (v:=.tuple #[.agg #[.slice (some ⟨w.heap.size,0,none⟩) 1 1,.slice av k cv],.int .i64 0]) zLm rfl (xM3 (r:=(some ([(k:Int)],l),0)) h.out.1 h.out.2.2 yEn hvl.out hcp.out HR0.out)
theorem zM3 {a1 b1:Option Addr} {n1 c1 m1 d1:Nat} {l:List Int} {es:List ByteArray} {W:World} {o:Option Ar} (h1:Av W a1 n1 c1 b1 m1 d1 l es o):Calls Tryz.prog 23 #[.agg #[.slice a1 n1 c1,.slice b1 m1 d1]] W (xL3 (shM o) W):=by
 cases o with
 |none=>exact zJ3 h1
 |some q=>
  have e:shM (some q)=(some ([(n1:Int)],l),0):=by rw[←h1.fst,←h1.v.s.1,←h1.fst];rfl
  rw[e];exact zL3 h1
theorem zN3 {a1 b1:Option Addr} {n1 c1 m1 d1:Nat} {l:List Int} {es:List ByteArray} {W:World} (h1:Av W a1 n1 c1 b1 m1 d1 l es none):
 Calls Tryz.prog 24 #[.agg #[.slice a1 n1 c1,.slice b1 m1 d1]] W (xL3 (none,1) W):=by
 have KV:=zC (fun w (hb:Below W.heap.size W w)=>zM4 (h1.below hb));clear h1;have h:=xO3 W a1 n1 c1 b1 m1 d1;go_in;have x1:=h.out.2.1.c0;have y1:=h.out.2.1.c1;go_wp2_with fail
 with_reducible refine(yMf h (KV.out _ h.out.2.2)).mono ?_
 clear h x1 y1;rintro e w ⟨rfl,h⟩;have y0:=h.out.1.c0;have y3:=h.out.1.c1;have f0:=h.out.1.f 0;have f1:=h.out.1.f 1;go_wp2_with fail;have hR:=h.out.1.set none 0 0 none 0 0;have r0:=hR.c0;have r1:=hR.c1;exact zE (v:=.tuple #[.agg #[.slice none 0 0,.slice none 0 0],.int .i64 1]) zMm rfl (xN3 h.out.1 h.out.2.2 yEn)
theorem zO3 {a1 b1:Option Addr} {n1 c1 m1 d1:Nat} {l:List Int} {es:List ByteArray} {W:World} {q:Ar} (h1:Av W a1 n1 c1 b1 m1 d1 l es (some q)):
 Calls Tryz.prog 24 #[.agg #[.slice a1 n1 c1,.slice b1 m1 d1]] W (xL3 (some ([(m1:Int)],q.2),0) W):=by
 have KV:=zC (fun w (hb:Below W.heap.size W w)=>zM4 (h1.below hb));obtain⟨hm,hp,hm4⟩:=h1.mlen;have HV:=zC (h1.v.t);have HC:=zC h1.c;have hes:=h1.i.2.1;have HR:=zC (zDg (t:=m1) (xs:=q.2) hm4 hm.symm h1.i.2.2.2);subst hes;clear h1 hm hp;have h:=xO3 W a1 n1 c1 b1 m1 d1;go_in;have x1:=h.out.2.1.c0;have y1:=h.out.2.1.c1;go_wp2_with fail
 with_reducible refine(yMf h (KV.out _ h.out.2.2)).mono ?_
 clear h x1 y1;rintro e w ⟨rfl,h⟩;have x1:=h.out.2.1.c0;have x2:=h.out.2.1.c1;have y0:=h.out.1.c0;have y3:=h.out.1.c1;have f0:=h.out.1.f 0;have f1:=h.out.1.f 1;have l0:=h.out.1.lt;have l1:=h.out.2.1.lt;go_wp2_with fail;have hA:Below w.heap.size w (w.alloc (.cells #[.int .i64 (m1:Int)] 3)):=(zI _ _).alloc (zR _) _;have hx:=xY2 w (m1:Int);replace h:=xVf h hA;have hR:=h.out.1.set (some ⟨w.heap.size,0,none⟩) 1 1 b1 m1 d1;have r0:=hR.c0;have r1:=hR.c1;have hE:=xM3 (a:=some ⟨w.heap.size,0,none⟩) (n:=1) (c:=1) (b:=b1) (m:=m1) (d:=d1) (r:=(some ([(m1:Int)],q.2),0)) h.out.1 h.out.2.2 yEn ⟨hx,HV.out.below h.out.2.2,by omega⟩ ⟨zR _,by unfold maxLen;omega,HC.out.3,HC.out.4⟩ HR.out;rw[yG (hn:=l0),yG (hn:=by simpa using l0)]at hE r0 r1;exact zE (v:=.tuple #[.agg #[.slice (some ⟨w.heap.size,0,none⟩) 1 1,.slice b1 m1 d1],.int .i64 0]) zMm rfl hE
theorem zP3 {a1 b1:Option Addr} {n1 c1 m1 d1:Nat} {l:List Int} {es:List ByteArray} {W:World} {o:Option Ar} (h1:Av W a1 n1 c1 b1 m1 d1 l es o):Calls Tryz.prog 24 #[.agg #[.slice a1 n1 c1,.slice b1 m1 d1]] W (xL3 (raM o) W):=by
 cases o with
 |none=>exact zN3 h1
 |some q=>
  have e:raM (some q)=(some ([(m1:Int)],q.2),0):=by rw[h1.mlen.1];rfl
  rw[e];exact zO3 h1
end Go.Proofs.YtcfbjdplhgdpfaaGreatDoor

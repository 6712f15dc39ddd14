import Derived.Test.YtcfbjdplhgdpfaaGreatDoorTag
set_option maxHeartbeats 1600000
set_option maxRecDepth 10000
namespace Go.Proofs.YtcfbjdplhgdpfaaGreatDoor
set_option linter.unusedVariables false
set_option linter.unusedSimpArgs false
theorem zYn {P:Prop}(h:P:=by kernel_rfl):P:=h
theorem zEm {P:Prop}(h:P:=by simp[results,Tryz.results218,go_sem,r0,r1]):P:=h
abbrev yL1:=@List.mem_of_getElem?
abbrev yK1:=@Go.MapKept.run_getObj_map
abbrev yJ1:=@Go.Proofs.enters_of
abbrev yB1:=@List.size_toArray
abbrev yZ0:=@Go.run_underlying
abbrev zN:=@List.map_append
section
open Go.RowKit
theorem xN5 (x:Int):(S x).data.toList=Lib.itoa x:=rfl
theorem xO5 {n:Nat} (h:n<lim):(Lib.decDigits n).length≤100:=(yAe n).2 h
theorem xP5 {x:Int} (h:x.natAbs<lim):(S x).size≤101:=by
 have h1:=xO5 h;show(Lib.itoa x).toArray.size≤101;rw[yB1];by_cases hx:x<0
 · rw[yQe hx,yC1];omega
 · rw[yPe yEn];omega
def xQ5 (x:Int) (w:World) (e:Ending) (w':World):Prop:=∃P l c,e=.returned (.tuple #[.agg #[.int .i64 x.sign,.slice P (List.length l) c],.bool true])∧(Sz w' P l∧Ok l∧yJa l∧val l=x.natAbs)∧Below w.heap.size w w'
def xR5 (w:World) (e:Ending) (w':World):Prop:=e=.returned (.tuple #[.agg #[.int .i64 0,.slice none 0 0],.bool false])∧Below w.heap.size w w'
theorem xS5 {x:Int} (h:x.natAbs<lim) (w:World):Calls Tryz.prog 44 #[.string (S x)] w (yXe true w):=by
 have h1:=xBe (S x) w (by have:=xP5 h;unfold maxLen;omega);rwa [xN5,(ySe x).2 h]at h1
theorem xT5:lim≤1000000000^12:=by
 unfold lim;decide
theorem xU5 {l:List Nat} {n:Nat} (nl:yJa l) (h:val l=n) (hn:n<lim):l.length≤12:=yVf nl h (yF hn xT5)
theorem xV5 (x:Int) (w:World) (h:x.natAbs<lim):Calls Tryz.prog 218 #[.string (S x)] w (xQ5 x w):=by
 have hM:=fun w=>xS5 h w;have hC:=fun w=>Tryz.strings_CutPrefix (S x) ⟨#[45]⟩ w;rw[show(⟨#[45]⟩:ByteArray).data.toList=[45]from rfl,xN5]at hC;have hf:=yRe x;unfold yIe at hf;rw[hf]at hC;obtain⟨f,hfe⟩:∃f:ByteArray,f=⟨(Lib.decDigits x.natAbs).toArray⟩:=⟨_,rfl⟩
 rw[←hfe]at hC;have hfd:f.data.toList=Lib.decDigits x.natAbs:=by rw[hfe]
 have hfs:f.size=(Lib.decDigits x.natAbs).length:=by rw[←hfd];simp
 have h1:=xO5 h;have h2:=zBc x.natAbs;have hr:=fun w=>zK7 f w yEn yEn (by rw[hfd];exact xUb _);rw[hfd,xTb]at hr;have HR:=zC hr;have HM:=zC hM;have HL:=zC h;obtain⟨q,hq⟩:∃q,q=x.sign:=⟨_,rfl⟩
 by_cases hx:x<0
 · have hb:Lib.hasPrefix (Lib.itoa x) [45]=true:=by rw[yQe hx];rfl
   rw[hb]at hC;have HC:=zC hC;have hmade:=fun w1 P l' c' hP ok nm (hvP:val l'=x.natAbs)=>xAf (-1) P l' c' w1 hP ok nm (.inr (.inl rfl)) (xN (xU5 nm hvP h) yCn) (z:=x) (sz:=q) (by rw[hvP];omega) hq.symm;have HD:=zC hmade;have HQ:=zC hq;clear hr hM hC hf hfe hfd hfs hb hmade h hq;go_in;go_wp2_with fail;refine(HM.out _).mono ?_;rintro e w1 ⟨rfl,rfl⟩;go_wp2_with fail;refine(HC.out _).mono ?_;rintro e w1 ⟨rfl,rfl⟩;go_wp2_with fail;refine(HR.out _).mono ?_;rintro e w2 ⟨_,rfl,⟨P,l,c,rfl,hP,okP,nmP,hvP⟩,hb2⟩;go_wp2_with fail;refine(HD.out _ P l c hP okP nmP hvP).mono ?_;rintro e w3 ⟨P3,l3,c3,rfl,hP3,ok3,nm3,hv3,hb3⟩;have hB:=((Nb.new w 0 none 0 0).below hb2 yHn).below hb3 (yF yHn hb2.size);have k0:=hB.c0;have k1:=hB.c1;have f0:=hB.f 0;have f1:=hB.f 1;have hN:=hB.set q P3 l3.length c3;have hS:=hP3.far hB.far (Only.two w.heap.size w3 (.int .i64 q) (.slice P3 l3.length c3));have hb:Below w.heap.size w w3:=(((zI _ _).alloc (zR _) _).trans (hb2.mono yHn)).trans (hb3.mono (xN yHn hb2.size));have hb':=hb.trans ((Only.two w.heap.size w3 (.int .i64 q) (.slice P3 l3.length c3)).to_below (zR _) hb.size);have r0:=hN.c0;have r1:=hN.c1;go_wp2_with fail;exact zE (v:=.tuple #[.agg #[.int .i64 q,.slice P3 l3.length c3],.bool true]) zEm rfl ⟨P3,l3,c3,by rw[HQ.out],⟨hS,ok3,nm3,hv3⟩,hb'⟩
 · have hnb:Lib.hasPrefix (Lib.itoa x) [45]=false:=by
    cases hh:Lib.hasPrefix (Lib.itoa x) [45]with
    |false=>rfl
    |true=>
     exfalso;have hl:=zH0 List.length hf;rw[yPe yEn]at hh hl;unfold Lib.trimPrefix at hl;rw[yA hh,xB0]at hl;simp at hl
     omega
   rw[hnb]at hC;have HC:=zC hC;have hSf:S x=f:=by rw[hfe];exact zRe rfl yEn
   rw[←hSf]at HR;have hmade:=fun w1 P l' c' hP ok nm (hvP:val l'=x.natAbs)=>xAf 1 P l' c' w1 hP ok nm (.inl rfl) (xN (xU5 nm hvP h) yCn) (z:=x) (sz:=q) (by rw[hvP];omega) hq.symm;have HD:=zC hmade;have HQ:=zC hq;clear hr hM hC hf hfe hfd hfs hnb hmade h hq hSf;go_in;go_wp2_with fail;refine(HM.out _).mono ?_;rintro e w1 ⟨rfl,rfl⟩;go_wp2_with fail;refine(HC.out _).mono ?_;rintro e w1 ⟨rfl,rfl⟩;go_wp2_with fail;refine(HR.out _).mono ?_;rintro e w2 ⟨_,rfl,⟨P,l,c,rfl,hP,okP,nmP,hvP⟩,hb2⟩;go_wp2_with fail;refine(HD.out _ P l c hP okP nmP hvP).mono ?_;rintro e w3 ⟨P3,l3,c3,rfl,hP3,ok3,nm3,hv3,hb3⟩;have hB:=((Nb.new w 0 none 0 0).below hb2 yHn).below hb3 (yF yHn hb2.size);have k0:=hB.c0;have k1:=hB.c1;have f0:=hB.f 0;have f1:=hB.f 1;have hN:=hB.set q P3 l3.length c3;have hS:=hP3.far hB.far (Only.two w.heap.size w3 (.int .i64 q) (.slice P3 l3.length c3));have hb:Below w.heap.size w w3:=(((zI _ _).alloc (zR _) _).trans (hb2.mono yHn)).trans (hb3.mono (xN yHn hb2.size));have hb':=hb.trans ((Only.two w.heap.size w3 (.int .i64 q) (.slice P3 l3.length c3)).to_below (zR _) hb.size);have r0:=hN.c0;have r1:=hN.c1;go_wp2_with fail;exact zE (v:=.tuple #[.agg #[.int .i64 q,.slice P3 l3.length c3],.bool true]) zEm rfl ⟨P3,l3,c3,by rw[HQ.out],⟨hS,ok3,nm3,hv3⟩,hb'⟩
theorem xW5 (s:ByteArray) (w:World) (hs:s.size≤maxLen) (h:yLe s.data.toList=false):Calls Tryz.prog 218 #[.string s] w (xR5 w):=by
 have hM:=fun w=>xBe s w hs;rw[h]at hM;have HM:=zC hM;clear hM h;go_in;go_wp2_with fail;refine(HM.out _).mono ?_;rintro e w1 ⟨rfl,rfl⟩;have hN:=Nb.new w 0 none 0 0;have r0:=hN.c0;have r1:=hN.c1;go_wp2_with fail;exact zE (v:=.tuple #[.agg #[.int .i64 0,.slice none 0 0],.bool false]) (by simp[results,Tryz.results218,go_sem]) rfl ⟨rfl,(zI _ _).alloc (zR _) _⟩
end
section
open Go.RowKit
theorem xX5 (x:Int) (w:World) (h:x.natAbs<lim):Calls Tryz.prog 198 #[.string (S x)] w fun e w'=>e=.returned (.int .i64 x.sign)∧Below w.heap.size w w':=by
 have hR:=fun w=>xV5 x w h;have HR:=zC hR;obtain⟨q,hq⟩:∃q,q=x.sign:=⟨_,rfl⟩
 rw[←hq];have HQ:=zC hq;clear hR h hq;go_in;go_wp2_with fail;refine(HR.out _).mono ?_;rintro e w1 ⟨P,l,c,rfl,⟨hP,ok,nm,hv⟩,hb⟩;rw[←HQ.out];go_wp2_with fail;go_ret;exact⟨rfl,hb.alloc hb.size _⟩
theorem xY5 (s:ByteArray) (w:World) (hs:s.size≤maxLen) (h:yLe s.data.toList=false):Calls Tryz.prog 198 #[.string s] w fun e w'=>e=.returned (.int .i64 0)∧Below w.heap.size w w':=by
 have hR:=fun w=>xW5 s w hs h;have HR:=zC hR;clear hR h;go_in;go_wp2_with fail;refine(HR.out _).mono ?_;rintro e w1 ⟨rfl,hb⟩;go_wp2_with fail;go_ret;exact⟨rfl,hb.alloc hb.size _⟩
theorem xZ5 (x:Int) (w:World) (h:x.natAbs<lim) (htab:Tab w):Calls Tryz.prog 195 #[.string (S x)] w fun e w'=>e=.returned (.string (S (-x)))∧Below w.heap.size w w':=by
 have hR:=fun w=>xV5 x w h;have hN:=fun P l c w1 hP ok nm hv=>yGe x P l c w1 hP ok nm hv;have hT:=fun P l c w1 hP ok nm hv ht htab=>zYe (-x) P l c w1 hP ok nm hv ht htab;have HR:=zC hR;have HL:=zC h;obtain⟨q,hq⟩:∃q,q=x.sign:=⟨_,rfl⟩
 obtain⟨q',hq'⟩:∃q,q=(-x).sign:=⟨_,rfl⟩
 have HQ:=zC (And.intro hq hq');rw[←hq]at hN;rw[←hq']at hT;have HN:=zC hN;have HT:=zC hT;clear hR hN hT h hq hq';go_in;go_wp2_with fail;refine(HR.out _).mono ?_;rintro e w1 ⟨P,l,c,rfl,⟨hP,ok,nm,hv⟩,hb⟩;rw[←HQ.out.1];have hb1:=hb.alloc hb.size (.cells #[.int .i64 q,.slice P l.length c] 200);have hP1:=hP.below ((zI _ _).alloc (zR _) (.cells #[.int .i64 q,.slice P l.length c] 200));go_wp2_with fail;refine(HN.out P l c _ hP1 ok nm hv).mono ?_;rintro e w2 ⟨_,rfl,⟨P2,l2,c2,rfl,hP2,ok2,nm2,hv2⟩,hb2⟩;rw[←HQ.out.2];have hb3:=hb1.trans (hb2.mono (xN hb.size yHn));go_wp2_with fail;refine(HT.out P2 l2 c2 _ hP2 ok2 nm2 hv2 (xN (xU5 nm2 (n:=x.natAbs) (by rw[hv2];omega) HL.out) yCn) (htab.below hb3)).mono ?_;rintro e w4 ⟨rfl,hb4⟩;go_wp2_with fail;go_ret;exact⟨rfl,hb3.trans (hb4.mono hb3.size)⟩
theorem zA6 (s:ByteArray) (w:World) (hs:s.size≤maxLen) (h:yLe s.data.toList=false):Calls Tryz.prog 195 #[.string s] w fun e w'=>e=.returned (.string ⟨#[]⟩)∧Below w.heap.size w w':=by
 have hR:=fun w=>xW5 s w hs h;have HR:=zC hR;clear hR h;go_in;go_wp2_with fail;refine(HR.out _).mono ?_;rintro e w1 ⟨rfl,hb⟩;go_wp2_with fail;go_ret;exact⟨rfl,hb.alloc hb.size _⟩
def zB6 (F:FuncId) (x y:Int) (r:ByteArray) (ec:Int):Prop:=∀(A B:Option Addr) (l m:List Nat) (c d:Nat) (w:World),Sz w A l→Sz w B m→Ok l→Ok m→yJa l→yJa m→val l=x.natAbs→val m=y.natAbs→Tab w→
 Calls Tryz.prog F #[.agg #[.int .i64 x.sign,.slice A l.length c],.agg #[.int .i64 y.sign,.slice B m.length d]] w fun e w'=>e=.returned (.tuple #[.string r,.int .i64 ec])∧Below w.heap.size w w'
theorem zC6 (F:FuncId) (hE:∀args w,(callFunc F args).run Tryz.prog w=.ok (.enter F args) w) (x y:Int) (r:ByteArray) (ec:Int) (w:World) (hx:x.natAbs<lim) (hy:y.natAbs<lim) (htab:Tab w) (hF:zB6 F x y r ec):
 Calls Tryz.prog 221 #[.string (S x),.string (S y),.func (Fn.func F) #[] #[]] w fun e w'=>e=.returned (.tuple #[.string r,.int .i64 ec])∧Below w.heap.size w w':=by
 have hR:=fun w=>xV5 x w hx;have hR':=fun w=>xV5 y w hy;have HR:=zC hR;have HR':=zC hR';obtain⟨q,hq⟩:∃q,q=x.sign:=⟨_,rfl⟩
 obtain⟨q',hq'⟩:∃q,q=y.sign:=⟨_,rfl⟩
 have HQ:=zC (And.intro hq hq');have HF:=zC hF;unfold zB6 at HF;rw[←hq,←hq']at HF;clear hR hR' hF hq hq' hx hy;go_in;go_wp2_with fail;refine(HR.out _).mono ?_;rintro e w1 ⟨P,l,c,rfl,⟨hP,ok,nm,hv⟩,hb⟩;rw[←HQ.out.1];have hN:=Nb.new w1 q P l.length c;have hb1:=hb.alloc hb.size (.cells #[.int .i64 q,.slice P l.length c] 200);have hP1:=hP.below ((zI _ _).alloc (zR _) (.cells #[.int .i64 q,.slice P l.length c] 200));go_wp2_with fail;refine(HR'.out _).mono ?_;rintro e w2 ⟨P',l',c',rfl,⟨hP',ok',nm',hv'⟩,hb'⟩;rw[←HQ.out.2];have hN2:=hN.below hb' hN.lt;have hP2:=hP1.below hb';have hb2:=hb1.trans (hb'.mono hb1.size);have k0:=hN2.c0;have k1:=hN2.c1;have hb3:=hb2.alloc hb2.size (.cells #[.int .i64 q',.slice P' l'.length c'] 200);have hP3:=hP2.below ((zI _ _).alloc (zR _) (.cells #[.int .i64 q',.slice P' l'.length c'] 200));have hP3':=hP'.below ((zI _ _).alloc (zR _) (.cells #[.int .i64 q',.slice P' l'.length c'] 200));have hN3:=hN2.alloc (.cells #[.int .i64 q',.slice P' l'.length c'] 200);have m0:=hN3.c0;have m1:=hN3.c1;clear hN hN2 hb hb' hb1;go_wp2_with fail;refine(HF.out P P' l l' c c' _ hP3 hP3' ok ok' nm nm' hv hv' (htab.below hb3)).mono ?_;rintro e w4 ⟨rfl,hb4⟩;go_wp2_with fail;go_ret2;exact⟨rfl,hb3.trans (hb4.mono hb3.size)⟩
end
section
open Go.RowKit
def ArgNo (w:World) (e:Ending) (w':World):Prop:=e=.returned (.tuple #[.string ⟨#[]⟩,.int .i64 1])∧Below w.heap.size w w'
def zD6 (ok:Bool) (w:World) (e:Ending) (w':World):Prop:=∃q P n c,e=.returned (.tuple #[.agg #[.int .i64 q,.slice P n c],.bool ok])∧Below w.heap.size w w'
theorem zE6 (s:ByteArray) (w:World) (hs:s.size≤maxLen):Calls Tryz.prog 218 #[.string s] w (zD6 (yLe s.data.toList) w):=by
 cases h:yLe s.data.toList with
 |false=>
  refine(xW5 s w hs h).mono ?_;rintro e w' ⟨rfl,hb⟩;exact⟨_,_,_,_,rfl,hb⟩
 |true=>
  obtain⟨x,hx,hl⟩:=yTe h;have e1:s=S x:=yD1 (Array.toList_inj.1 hx);subst e1;refine(xV5 x w hl).mono ?_;rintro e w' ⟨P,l,c,rfl,_,hb⟩;exact⟨_,_,_,_,rfl,hb⟩
theorem zF6 (fv:Value) (s t:ByteArray) (w:World) (hs:s.size≤maxLen) (ht:t.size≤maxLen) (h:(yLe s.data.toList&&yLe t.data.toList)=false):
 Calls Tryz.prog 221 #[.string s,.string t,fv] w (ArgNo w):=by
 have hR:=fun w=>zE6 s w hs;have hR':=fun w=>zE6 t w ht;obtain⟨b1,hb1⟩:∃b,b=yLe s.data.toList:=⟨_,rfl⟩
 obtain⟨b2,hb2⟩:∃b,b=yLe t.data.toList:=⟨_,rfl⟩
 rw[←hb1]at hR h;rw[←hb2]at hR' h;have HR:=zC hR;have HR':=zC hR';clear hR hR' hb1 hb2;cases b1
 · clear h
   go_in;go_wp2_with fail;refine(HR.out _).mono ?_;rintro e w1 ⟨q,P,n,c,rfl,hb⟩;have hb1:=hb.alloc hb.size (.cells #[.int .i64 q,.slice P n c] 200);go_wp2_with fail;refine(HR'.out _).mono ?_;rintro e w2 ⟨q',P',n',c',rfl,hb'⟩;have hb2:=hb1.trans (hb'.mono hb1.size);go_wp2_with fail;go_ret2;exact⟨rfl,hb2.alloc hb2.size _⟩
 · have h2:b2=false:=by simpa using h
   subst h2;clear h;go_in;go_wp2_with fail;refine(HR.out _).mono ?_;rintro e w1 ⟨q,P,n,c,rfl,hb⟩;have hb1:=hb.alloc hb.size (.cells #[.int .i64 q,.slice P n c] 200);go_wp2_with fail;refine(HR'.out _).mono ?_;rintro e w2 ⟨q',P',n',c',rfl,hb'⟩;have hb2:=hb1.trans (hb'.mono hb1.size);go_wp2_with fail;go_ret2;exact⟨rfl,hb2.alloc hb2.size _⟩
end
section
open Go.RowKit
def zG6 (z:Int):ByteArray:=if z.natAbs<lim then S z else⟨#[]⟩
def zH6 (z:Int):Int:=if z.natAbs<lim then 0 else 8
theorem zI6 (z:Int):yBe z=.tuple #[.string (zG6 z),.int .i64 (zH6 z)]:=by
 unfold yBe zG6 zH6;split<;>rfl
theorem zJ6 {z q:Int} (hq:q=z.sign) (A:Option Addr) (l:List Nat) (c:Nat) (w:World) (hA:Sz w A l) (ol:Ok l) (nl:yJa l) (hv:val l=z.natAbs) (hl:l.length≤1000) (htab:Tab w):
 Calls Tryz.prog 224 #[.agg #[.int .i64 q,.slice A l.length c]] w fun e w'=>e=.returned (.tuple #[.string (zG6 z),.int .i64 (zH6 z)])∧Below w.heap.size w w':=by
 subst hq;have h:=yEe z A l c w hA ol nl hv hl htab;rwa [zI6]at h
theorem zK6 {n:Nat} (h:n<lim):n<1000000000^12:=yF h xT5
theorem zL6 {x y:Int} (hx:x.natAbs<lim) (hy:y.natAbs<lim):(x+y).natAbs<1000000000^24:=by
 have h1:=zK6 hx;have h2:=zK6 hy;have h3:1000000000^12+1000000000^12≤1000000000^24:=by decide
 have:(x+y).natAbs≤x.natAbs+y.natAbs:=by omega
 omega
theorem zM6 {x y:Int} (hx:x.natAbs<lim) (hy:y.natAbs<lim):(x*y).natAbs<1000000000^24:=by
 rw[yE1];rw[show(24:Nat)=12+12 from rfl,yF1];exact yG1 (zK6 hx) (xT (zK6 hy)) (yH1 yCn)
theorem zN6 (x y:Int) (hx:x.natAbs<lim) (hy:y.natAbs<lim):zB6 222 x y (zG6 (x+y)) (zH6 (x+y)):=by
 intro A B l m c d w hA hB ol om nl nm hv hv' htab;have hP:=xNf x y A B l m c d;obtain⟨q,hq⟩:∃q,q=x.sign:=⟨_,rfl⟩
 obtain⟨q',hq'⟩:∃q,q=y.sign:=⟨_,rfl⟩
 obtain⟨q3,hq3⟩:∃q,q=(x+y).sign:=⟨_,rfl⟩
 have l1:=xU5 nl hv hx;have l2:=xU5 nm hv' hy;have hl:=zL6 hx hy;rw[←hq,←hq']at hP ⊢;have HP:=zC hP;have HQ:=zC (And.intro hq3 hl);clear hP hq hq' hq3 hx hy hl;go_in;go_wp2_with fail;have hW:Below w.heap.size w ((w.alloc (.cells #[.int .i64 q,.slice A l.length c] 200)).alloc (.cells #[.int .i64 q',.slice B m.length d] 200)):=((zI _ _).alloc (zR _) _).alloc yHn _;refine(HP.out _ (hA.below hW) (hB.below hW) ol om nl nm hv hv' yEn yEn).mono ?_;rintro e w1 ⟨_,rfl,⟨P,l3,c3,rfl,h3,ok3,nm3,hv3⟩,hb3⟩;rw[←HQ.out.1];have hb:=hW.trans (hb3.mono zZn);go_wp2_with fail;refine(zJ6 HQ.out.1 P l3 c3 _ h3 ok3 nm3 hv3 (xN (yVf nm3 hv3 HQ.out.2) yCn) (htab.below hb)).mono ?_;rintro e w2 ⟨rfl,hb4⟩;go_wp2_with fail;go_ret2;exact⟨rfl,hb.trans (hb4.mono hb.size)⟩
theorem zO6 (x y:Int) (hx:x.natAbs<lim) (hy:y.natAbs<lim):zB6 226 x y (zG6 (x*y)) (zH6 (x*y)):=by
 intro A B l m c d w hA hB ol om nl nm hv hv' htab;have hP:=xBf x y A B l m c d;obtain⟨q,hq⟩:∃q,q=x.sign:=⟨_,rfl⟩
 obtain⟨q',hq'⟩:∃q,q=y.sign:=⟨_,rfl⟩
 obtain⟨q3,hq3⟩:∃q,q=(x*y).sign:=⟨_,rfl⟩
 have l1:=xU5 nl hv hx;have l2:=xU5 nm hv' hy;have hl:=zM6 hx hy;rw[←hq,←hq']at hP ⊢;have HP:=zC hP;have HQ:=zC (And.intro hq3 hl);clear hP hq hq' hq3 hx hy hl;go_in;go_wp2_with fail;have hW:Below w.heap.size w ((w.alloc (.cells #[.int .i64 q,.slice A l.length c] 200)).alloc (.cells #[.int .i64 q',.slice B m.length d] 200)):=((zI _ _).alloc (zR _) _).alloc yHn _;refine(HP.out _ (hA.below hW) (hB.below hW) ol om nl nm hv hv' yEn yEn).mono ?_;rintro e w1 ⟨_,rfl,⟨P,l3,c3,rfl,h3,ok3,nm3,hv3⟩,hb3⟩;rw[←HQ.out.1];have hb:=hW.trans (hb3.mono zZn);go_wp2_with fail;refine(zJ6 HQ.out.1 P l3 c3 _ h3 ok3 nm3 hv3 (xN (yVf nm3 hv3 HQ.out.2) yCn) (htab.below hb)).mono ?_;rintro e w2 ⟨rfl,hb4⟩;go_wp2_with fail;go_ret2;exact⟨rfl,hb.trans (hb4.mono hb.size)⟩
theorem zP6 (x y:Int) (hx:x.natAbs<lim) (hy:y.natAbs<lim):zB6 225 x y (zG6 (x-y)) (zH6 (x-y)):=by
 intro A B l m c d w hA hB ol om nl nm hv hv' htab;have hN:=yGe y B m d;obtain⟨q,hq⟩:∃q,q=x.sign:=⟨_,rfl⟩
 obtain⟨q',hq'⟩:∃q,q=y.sign:=⟨_,rfl⟩
 obtain⟨q2,hq2⟩:∃q,q=(-y).sign:=⟨_,rfl⟩
 obtain⟨q3,hq3⟩:∃q,q=(x-y).sign:=⟨_,rfl⟩
 have l1:=xU5 nl hv hx;have l2:=xU5 nm hv' hy;have hl:(x+ -y).natAbs<1000000000^24:=zL6 hx (by omega:(-y).natAbs<lim);rw[←Int.sub_eq_add_neg]at hl;have hP:=fun B' m' d'=>xNf x (-y) A B' l m' c d';rw[←Int.sub_eq_add_neg,←hq,←hq2]at hP;rw[←hq']at hN;rw[←hq,←hq']at ⊢;have HP:=zC hP;have HN:=zC hN;have HQ:=zC (And.intro hq3 hl);have HQ2:=zC (And.intro hq2 hy);clear hP hN hq hq' hq3 hq2 hx hy hl;go_in;go_wp2_with fail;have hN1:=(Nb.new w q A l.length c).alloc (.cells #[.int .i64 q',.slice B m.length d] 200);have hM1:=Nb.new (w.alloc (.cells #[.int .i64 q,.slice A l.length c] 200)) q' B m.length d;rw[show(w.alloc (.cells #[.int .i64 q,.slice A l.length c] 200)).heap.size=w.heap.size+1 by simp]at hM1;have hW:Below w.heap.size w ((w.alloc (.cells #[.int .i64 q,.slice A l.length c] 200)).alloc (.cells #[.int .i64 q',.slice B m.length d] 200)):=((zI _ _).alloc (zR _) _).alloc yHn _;generalize ((w.alloc (.cells #[.int .i64 q,.slice A l.length c] 200)).alloc (.cells #[.int .i64 q',.slice B m.length d] 200))=W at hN1 hM1 hW ⊢;have hAW:=hA.below hW;have hBW:=hB.below hW;have k0:=hN1.c0;have k1:=hN1.c1;have k2:=hM1.c0;have k3:=hM1.c1;have d0:W.drew.cell? ⟨w.heap.size,0,none⟩=some (.int .i64 q):=k0;have d1:W.drew.cell? ⟨w.heap.size,1,none⟩=some (.slice A l.length c):=k1;have d2:W.drew.cell? ⟨w.heap.size+1,0,none⟩=some (.int .i64 q'):=k2;have d3:W.drew.cell? ⟨w.heap.size+1,1,none⟩=some (.slice B m.length d):=k3;go_region_held3 (fun w'=>w'.cell? ⟨w.heap.size,0,none⟩=some (.int .i64 q)∧w'.cell? ⟨w.heap.size,1,none⟩=some (.slice A l.length c)∧w'.cell? ⟨w.heap.size+1,0,none⟩=some (.int .i64 q')∧w'.cell? ⟨w.heap.size+1,1,none⟩=some (.slice B m.length d))
  (first|with_reducible exact⟨d0,d1,d2,d3⟩|with_reducible exact⟨hN2.c0,hN2.c1,hM2.c0,hM2.c1⟩|with_reducible exact⟨hN3.c0,hN3.c1,hM3.c0,hM3.c1⟩|with_reducible exact⟨hN4.c0,hN4.c1,hM4.c0,hM4.c1⟩|fail)
  (first
    |(go_at_call 219;refine(HN.out _ (by exact hBW) om nm hv').mono ?_;rintro e w1 ⟨_,rfl,⟨P1,l1',c1,rfl,h1,ok1,nm1,hv1⟩,hb1⟩;rw[←HQ2.out.1];have hb1:=yXf hb1;have hN2:=hN1.below hb1 hN1.lt;have hM2:=hM1.below hb1 hM1.lt;have hb2:=hW.trans (hb1.mono hW.size);have hA2:=hAW.below hb1;have l3:=xU5 nm1 (n:=y.natAbs) (by rw[hv1];omega) HQ2.out.2)
    |(go_at_call 223;refine(HP.out _ _ _ _ (by exact hA2) h1 ol ok1 nl nm1 hv hv1 yEn yEn).mono ?_;rintro e w3 ⟨_,rfl,⟨P,l4,c3,rfl,h3,ok3,nm3,hv3⟩,hb3⟩;rw[←HQ.out.1];have hN3:=hN2.below hb3 hN2.lt;have hM3:=hM2.below hb3 hM2.lt;have hb:=hb2.trans (hb3.mono hb2.size))
    |(go_at_call 224;refine(zJ6 HQ.out.1 P l4 c3 _ h3 ok3 nm3 hv3 (xN (yVf nm3 hv3 HQ.out.2) yCn) (htab.below hb)).mono ?_;rintro e w5 ⟨rfl,hb4⟩;have hN4:=hN3.below hb4 hN3.lt;have hM4:=hM3.below hb4 hM3.lt;have hbf:=hb.trans (hb4.mono hb.size)))
 go_wp2_with fail;go_ret2;exact⟨rfl,hbf⟩
end
section
open Go.RowKit
def OpPost (z:Int) (w:World) (e:Ending) (w':World):Prop:=e=.returned (.tuple #[.string (zG6 z),.int .i64 (zH6 z)])∧Below w.heap.size w w'
theorem zQ6 (x y:Int) (w:World) (hx:x.natAbs<lim) (hy:y.natAbs<lim) (htab:Tab w):Calls Tryz.prog 200 #[.string (S x),.string (S y)] w (OpPost (x+y) w):=by
 have hT:=zC6 222 (yJ1 Tryz.func222 zYn rfl) x y _ _ w hx hy htab (zN6 x y hx hy);have HT:=zC hT;obtain⟨r,hr⟩:∃r,r=zG6 (x+y):=⟨_,rfl⟩
 obtain⟨ec,hec⟩:∃r,r=zH6 (x+y):=⟨_,rfl⟩
 rw[←hr,←hec]at HT;have HE:=zC (And.intro hr hec);clear hT hr hec hx hy;go_in;go_wp2_with fail;refine HT.out.mono ?_;rintro e w1 ⟨rfl,hb⟩;go_wp2_with fail;go_ret2;exact⟨by rw[←HE.out.1,←HE.out.2];rfl,hb⟩
theorem zR6 (s t:ByteArray) (w:World) (hs:s.size≤maxLen) (ht:t.size≤maxLen) (h:(yLe s.data.toList&&yLe t.data.toList)=false):Calls Tryz.prog 200 #[.string s,.string t] w (ArgNo w):=by
 have hT:=fun fv=>zF6 fv s t w hs ht h;have HT:=zC hT;clear hT h;go_in;go_wp2_with fail;refine(HT.out _).mono ?_;rintro e w1 ⟨rfl,hb⟩;go_wp2_with fail;go_ret2;exact⟨rfl,hb⟩
theorem zS6 (x y:Int) (w:World) (hx:x.natAbs<lim) (hy:y.natAbs<lim) (htab:Tab w):Calls Tryz.prog 201 #[.string (S x),.string (S y)] w (OpPost (x-y) w):=by
 have hT:=zC6 225 (yJ1 Tryz.func225 zYn rfl) x y _ _ w hx hy htab (zP6 x y hx hy);have HT:=zC hT;obtain⟨r,hr⟩:∃r,r=zG6 (x-y):=⟨_,rfl⟩
 obtain⟨ec,hec⟩:∃r,r=zH6 (x-y):=⟨_,rfl⟩
 rw[←hr,←hec]at HT;have HE:=zC (And.intro hr hec);clear hT hr hec hx hy;go_in;go_wp2_with fail;refine HT.out.mono ?_;rintro e w1 ⟨rfl,hb⟩;go_wp2_with fail;go_ret2;exact⟨by rw[←HE.out.1,←HE.out.2];rfl,hb⟩
theorem zT6 (s t:ByteArray) (w:World) (hs:s.size≤maxLen) (ht:t.size≤maxLen) (h:(yLe s.data.toList&&yLe t.data.toList)=false):Calls Tryz.prog 201 #[.string s,.string t] w (ArgNo w):=by
 have hT:=fun fv=>zF6 fv s t w hs ht h;have HT:=zC hT;clear hT h;go_in;go_wp2_with fail;refine(HT.out _).mono ?_;rintro e w1 ⟨rfl,hb⟩;go_wp2_with fail;go_ret2;exact⟨rfl,hb⟩
theorem zU6 (x y:Int) (w:World) (hx:x.natAbs<lim) (hy:y.natAbs<lim) (htab:Tab w):Calls Tryz.prog 202 #[.string (S x),.string (S y)] w (OpPost (x*y) w):=by
 have hT:=zC6 226 (yJ1 Tryz.func226 zYn rfl) x y _ _ w hx hy htab (zO6 x y hx hy);have HT:=zC hT;obtain⟨r,hr⟩:∃r,r=zG6 (x*y):=⟨_,rfl⟩
 obtain⟨ec,hec⟩:∃r,r=zH6 (x*y):=⟨_,rfl⟩
 rw[←hr,←hec]at HT;have HE:=zC (And.intro hr hec);clear hT hr hec hx hy;go_in;go_wp2_with fail;refine HT.out.mono ?_;rintro e w1 ⟨rfl,hb⟩;go_wp2_with fail;go_ret2;exact⟨by rw[←HE.out.1,←HE.out.2];rfl,hb⟩
theorem zV6 (s t:ByteArray) (w:World) (hs:s.size≤maxLen) (ht:t.size≤maxLen) (h:(yLe s.data.toList&&yLe t.data.toList)=false):Calls Tryz.prog 202 #[.string s,.string t] w (ArgNo w):=by
 have hT:=fun fv=>zF6 fv s t w hs ht h;have HT:=zC hT;clear hT h;go_in;go_wp2_with fail;refine(HT.out _).mono ?_;rintro e w1 ⟨rfl,hb⟩;go_wp2_with fail;go_ret2;exact⟨rfl,hb⟩
theorem zW6 (x y:Int) (w:World) (hx:x.natAbs<lim) (hy:y.natAbs<lim):Calls Tryz.prog 208 #[.string (S x),.string (S y)] w (xFe (xKa x y) w):=by
 have hR:=fun w=>xV5 x w hx;have hR':=fun w=>xV5 y w hy;have HR:=zC hR;have HR':=zC hR';obtain⟨q,hq⟩:∃q,q=x.sign:=⟨_,rfl⟩
 obtain⟨q',hq'⟩:∃q,q=y.sign:=⟨_,rfl⟩
 obtain⟨z,hz⟩:∃z,z=xKa x y:=⟨_,rfl⟩
 have HQ:=zC (And.intro hq hq');have hF:=fun P P' l l' c c' w1 hA hB ol om nl nm (hv:val l=x.natAbs) (hv':val l'=y.natAbs)=>xHe x y P P' l l' c c' w1 hA hB ol om nl nm hv hv' (xN (xU5 nl hv hx) yCn) (xN (xU5 nm hv' hy) yCn);rw[←hq,←hq',←hz]at hF;have HF:=zC hF;have HZ:=zC hz;clear hR hR' hF hq hq' hx hy hz;go_in;go_wp2_with fail;refine(HR.out _).mono ?_;rintro e w1 ⟨P,l,c,rfl,⟨hP,ok,nm,hv⟩,hb⟩;rw[←HQ.out.1];have hN:=Nb.new w1 q P l.length c;have hb1:=hb.alloc hb.size (.cells #[.int .i64 q,.slice P l.length c] 200);have hP1:=hP.below ((zI _ _).alloc (zR _) (.cells #[.int .i64 q,.slice P l.length c] 200));go_wp2_with fail;refine(HR'.out _).mono ?_;rintro e w2 ⟨P',l',c',rfl,⟨hP',ok',nm',hv'⟩,hb'⟩;rw[←HQ.out.2];have hN2:=hN.below hb' hN.lt;have hP2:=hP1.below hb';have hb2:=hb1.trans (hb'.mono hb1.size);have k0:=hN2.c0;have k1:=hN2.c1;have hb3:=hb2.alloc hb2.size (.cells #[.int .i64 q',.slice P' l'.length c'] 200);have hP3:=hP2.below ((zI _ _).alloc (zR _) (.cells #[.int .i64 q',.slice P' l'.length c'] 200));have hP3':=hP'.below ((zI _ _).alloc (zR _) (.cells #[.int .i64 q',.slice P' l'.length c'] 200));have hN3:=hN2.alloc (.cells #[.int .i64 q',.slice P' l'.length c'] 200);have m0:=hN3.c0;have m1:=hN3.c1;clear hN hN2 hb hb' hb1;go_wp2_with fail;refine(HF.out P P' l l' c c' _ hP3 hP3' ok ok' nm nm' hv hv').mono ?_;rintro e w4 ⟨rfl,hb4⟩;go_wp2_with fail;go_ret;exact⟨xOa HZ.out,hb3.trans (hb4.mono hb3.size)⟩
theorem zX6 (s t:ByteArray) (w:World) (hs:s.size≤maxLen) (ht:t.size≤maxLen) (h:(yLe s.data.toList&&yLe t.data.toList)=false):Calls Tryz.prog 208 #[.string s,.string t] w (xFe 0 w):=by
 have hR:=fun w=>zE6 s w hs;have hR':=fun w=>zE6 t w ht;obtain⟨b1,hb1⟩:∃b,b=yLe s.data.toList:=⟨_,rfl⟩
 obtain⟨b2,hb2⟩:∃b,b=yLe t.data.toList:=⟨_,rfl⟩
 rw[←hb1]at hR h;rw[←hb2]at hR' h;have HR:=zC hR;have HR':=zC hR';clear hR hR' hb1 hb2;cases b1
 · clear h
   go_in;go_wp2_with fail;refine(HR.out _).mono ?_;rintro e w1 ⟨q,P,n,c,rfl,hb⟩;have hb1:=hb.alloc hb.size (.cells #[.int .i64 q,.slice P n c] 200);go_wp2_with fail;refine(HR'.out _).mono ?_;rintro e w2 ⟨q',P',n',c',rfl,hb'⟩;have hb2:=hb1.trans (hb'.mono hb1.size);go_wp2_with fail;go_ret;exact⟨rfl,hb2.alloc hb2.size _⟩
 · have h2:b2=false:=by simpa using h
   subst h2;clear h;go_in;go_wp2_with fail;refine(HR.out _).mono ?_;rintro e w1 ⟨q,P,n,c,rfl,hb⟩;have hb1:=hb.alloc hb.size (.cells #[.int .i64 q,.slice P n c] 200);go_wp2_with fail;refine(HR'.out _).mono ?_;rintro e w2 ⟨q',P',n',c',rfl,hb'⟩;have hb2:=hb1.trans (hb'.mono hb1.size);go_wp2_with fail;go_ret;exact⟨rfl,hb2.alloc hb2.size _⟩
theorem zY6 (n:Int) (h0: -9223372036854775808≤n) (h1:n≤9223372036854775807) (w:World) (htab:Tab w):Calls Tryz.prog 45 #[.int .i64 n] w fun e w'=>e=.returned (.string (S n))∧Below w.heap.size w w':=by
 have hF:=Tryz.strconv_FormatInt_10 n h0 h1 w htab.is;have HF:=zC hF;clear hF h0 h1;go_in;go_wp2_with fail;refine HF.out.mono ?_;rintro e w1 ⟨rfl,k,os,rfl⟩;go_wp2_with fail;go_ret;exact⟨rfl,Lib.below_grow _ w (zR _) k os⟩
end
section
open Go.RowKit
def Is (s:ByteArray):Option Int→Prop
 |some x=>s=S x∧x.natAbs<lim
 |none=>yLe s.data.toList=false∧s.size≤maxLen
def T:Option Int→ByteArray
 |some x=>S x
 |none=>⟨#[]⟩
theorem Is.size {s:ByteArray} {o:Option Int} (h:Is s o):s.size≤maxLen:=by
 cases o with
 |none=>exact h.2
 |some x=>rw[h.1];exact xN (xP5 h.2) yCn
theorem Is.may {s:ByteArray} {o:Option Int} (h:Is s o):yLe s.data.toList=o.isSome:=by
 cases o with
 |none=>exact h.1
 |some x=>rw[h.1];exact(ySe x).2 h.2
theorem zZ6 {x y:Int} (h:S x=S y):x=y:=by
 apply yUe;have:=zH0 (fun s:ByteArray=>s.data.toList) h;simpa[S]using this
def op (f:Int→Int→Int):Option Int→Option Int→Option Int
 |some x,some y=>if(f x y).natAbs<lim then some (f x y)else none
 |_,_=>none
def opE (f:Int→Int→Int):Option Int→Option Int→Int
 |some x,some y=>zH6 (f x y)
 |_,_=>1
theorem yA6 (f:Int→Int→Int) (x y:Int):T (op f (some x) (some y))=zG6 (f x y):=by
 simp only[op,zG6];split<;>rfl
def yB6 (r:Option Int) (ec:Int) (w:World) (e:Ending) (w':World):Prop:=e=.returned (.tuple #[.string (T r),.int .i64 ec])∧Below w.heap.size w w'
theorem OpPost.opt {f:Int→Int→Int} {x y:Int} {w:World} {e:Ending} {w':World} (h:OpPost (f x y) w e w'):yB6 (op f (some x) (some y)) (opE f (some x) (some y)) w e w':=by
 unfold yB6;rw[yA6];exact h
theorem ArgNo.opt {f:Int→Int→Int} {o p:Option Int} {w:World} {e:Ending} {w':World} (hn:(o.isSome&&p.isSome)=false) (h:ArgNo w e w'):yB6 (op f o p) (opE f o p) w e w':=by
 cases o<;>cases p<;>first|exact h|exact absurd hn yHn
theorem yC6 {s t:ByteArray} {o p:Option Int} (hs:Is s o) (ht:Is t p) (hn:(o.isSome&&p.isSome)=false):(yLe s.data.toList&&yLe t.data.toList)=false:=by rw[hs.may,ht.may];exact hn
theorem yD6 {s t:ByteArray} {o p:Option Int} (w:World) (hs:Is s o) (ht:Is t p) (htab:Tab w):Calls Tryz.prog 200 #[.string s,.string t] w (yB6 (op (fun x y=>x+y) o p) (opE (fun x y=>x+y) o p) w):=by
 cases hn:(o.isSome&&p.isSome)
 · exact(zR6 s t w hs.size ht.size (yC6 hs ht hn)).mono fun e w' h=>ArgNo.opt hn h
 · cases o<;>cases p<;>simp at hn
   rw[hs.1,ht.1];exact(zQ6 _ _ w hs.2 ht.2 htab).mono fun e w' h=>OpPost.opt (f:=fun x y=>x+y) h
theorem yE6 {s t:ByteArray} {o p:Option Int} (w:World) (hs:Is s o) (ht:Is t p) (htab:Tab w):Calls Tryz.prog 201 #[.string s,.string t] w (yB6 (op (fun x y=>x-y) o p) (opE (fun x y=>x-y) o p) w):=by
 cases hn:(o.isSome&&p.isSome)
 · exact(zT6 s t w hs.size ht.size (yC6 hs ht hn)).mono fun e w' h=>ArgNo.opt hn h
 · cases o<;>cases p<;>simp at hn
   rw[hs.1,ht.1];exact(zS6 _ _ w hs.2 ht.2 htab).mono fun e w' h=>OpPost.opt (f:=fun x y=>x-y) h
theorem yF6 {s t:ByteArray} {o p:Option Int} (w:World) (hs:Is s o) (ht:Is t p) (htab:Tab w):Calls Tryz.prog 202 #[.string s,.string t] w (yB6 (op (fun x y=>x*y) o p) (opE (fun x y=>x*y) o p) w):=by
 cases hn:(o.isSome&&p.isSome)
 · exact(zV6 s t w hs.size ht.size (yC6 hs ht hn)).mono fun e w' h=>ArgNo.opt hn h
 · cases o<;>cases p<;>simp at hn
   rw[hs.1,ht.1];exact(zU6 _ _ w hs.2 ht.2 htab).mono fun e w' h=>OpPost.opt (f:=fun x y=>x*y) h
def yG6:Option Int→Option Int→Int
 |some x,some y=>xKa x y
 |_,_=>0
theorem yH6 {s t:ByteArray} {o p:Option Int} (w:World) (hs:Is s o) (ht:Is t p):Calls Tryz.prog 208 #[.string s,.string t] w (xFe (yG6 o p) w):=by
 cases hn:(o.isSome&&p.isSome)
 · refine(zX6 s t w hs.size ht.size (yC6 hs ht hn)).mono fun e w' h=> ?_
   cases o<;>cases p<;>first|exact h|exact absurd hn yHn
 · cases o<;>cases p<;>simp at hn
   rw[hs.1,ht.1];exact zW6 _ _ w hs.2 ht.2
def yI6:Option Int→Int
 |some x=>x.sign
 |none=>0
theorem yJ6 {s:ByteArray} {o:Option Int} (w:World) (hs:Is s o):Calls Tryz.prog 198 #[.string s] w (xFe (yI6 o) w):=by
 cases o with
 |none=>exact xY5 s w hs.2 hs.1
 |some x=>rw[hs.1];exact xX5 x w hs.2
theorem yK6 {s:ByteArray} {o:Option Int} (w:World) (hs:Is s o):Calls Tryz.prog 44 #[.string s] w (yXe o.isSome w):=by
 rw[←hs.may];exact xBe s w hs.size
def yL6:Option Int→Option Int
 |some x=>some (-x)
 |none=>none
theorem yM6 {s:ByteArray} {o:Option Int} (w:World) (hs:Is s o) (htab:Tab w):Calls Tryz.prog 195 #[.string s] w fun e w'=>e=.returned (.string (T (yL6 o)))∧Below w.heap.size w w':=by
 cases o with
 |none=>exact zA6 s w hs.2 hs.1
 |some x=>rw[hs.1];exact xZ5 x w hs.2 htab
end
section
open Go.RowKit Go.Maps Go.MapKept
open Go.ChangeMaps (setBlock heap_setBlock_same heap_setBlock_other)
def Mq (W:World) (b:Nat) (l:List (Value×Value)):Prop:=∃es clock,W.heap[b]?=some (.map es clock)∧es.toList.map (fun e=>(e.key,e.val))=l
theorem Mq.lt {W:World} {b:Nat} {l:List (Value×Value)} (h:Mq W b l):b<W.heap.size:=by
 obtain⟨es,clock,hb,_⟩:=h;exact(zZ0.1 hb).1
theorem Mq.below {W W':World} {b:Nat} {l:List (Value×Value)} (h:Mq W b l) (hb:Below W.heap.size W W'):Mq W' b l:=by
 have hlt:=h.lt;obtain⟨es,clock,he,hm⟩:=h;exact⟨es,clock,(hb.block b hlt).trans he,hm⟩
theorem Mq.made (W:World):Mq (W.alloc (.map #[] 0)) W.heap.size []:=⟨#[],0,(MapKept.heap_alloc W _).1,rfl⟩
theorem Mq.mem {es:Array MapEntry} {l:List (Value×Value)} (h:es.toList.map (fun e=>(e.key,e.val))=l) {e:MapEntry} (he:e∈es.toList):(e.key,e.val)∈l:=by
 rw[←h];exact xY0.2 ⟨e,he,rfl⟩
theorem Mq.put {P:Program} {w:World} {t k e:TypeId} {b:Nat} {l:List (Value×Value)} (ht:P.underlying t=some (.map k e)) (K:Keyed P k) (h:Mq w b l) {x:Value} {lx:Lit} (hkey:keyOf P k x=some lx) (v:Value)
 (hl:∀p∈l,∃m,keyOf P k p.1=some m) (hx:∀p∈l,p.1≠x):∃w',(Instr.mapUpdate t (.map (some b)) x v).run P w=.ok () w'∧Mq w' b (l++[(x,v)])∧w.grownBy w' (some b):=by
 obtain⟨es,clock,hb,hm⟩:=h;rcases K.find w hkey es.toList (fun y hy=>hl _ (Mq.mem hm hy))with⟨h1,h2⟩|⟨j,e0,h1,h2,h3⟩
 · refine⟨setBlock w b (.map (es.push ⟨x,v,clock⟩) (clock+1)),?_,⟨_,_,heap_setBlock_same hb _,?_⟩,⟨rfl,rfl,rfl,by simp[setBlock],fun i _ hi=>heap_setBlock_other hb _ (fun e=>hi yGn)⟩⟩
   · have hs:=K.stays w hkey
     simp[Instr.mapUpdate,yZ0 ht,yK1 hb,K.check w false hkey,h1,MapKept.run_setObj_map _ hb,Result.andThen,setBlock]
   · rw[Array.toList_push,zN,hm];rfl
 · exact absurd h3 (hx _ (Mq.mem hm (yL1 h2)))
theorem Mq.look {P:Program} {w:World} {t k e:TypeId} {b:Nat} {l:List (Value×Value)} (ht:P.underlying t=some (.map k e)) (K:Keyed P k) (h:Mq w b l) {x:Value} {lx:Lit} (hkey:keyOf P k x=some lx) {v:Value} (ok:Bool)
 (hl:∀p∈l,∃m,keyOf P k p.1=some m) (hm:∃v',(x,v')∈l) (hu:∀p∈l,p.1=x→p.2=v):(Instr.lookup t (.map (some b)) x ok).run P w=.ok (if ok then .tuple #[v,.bool true]else v) w:=by
 obtain⟨es,clock,hb,he⟩:=h;rcases K.find w hkey es.toList (fun y hy=>hl _ (Mq.mem he hy))with⟨h1,h2⟩|⟨j,e0,h1,h2,h3⟩
 · exfalso
   obtain⟨v',hm⟩:=hm;rw[←he]at hm;obtain⟨y,hy,e1⟩:=xY0.1 hm;injection e1 with e1 _
   exact h2 y hy e1
 · have hv:e0.val=v:=hu _ (Mq.mem he (yL1 h2)) h3
   simp[Instr.lookup,yZ0 ht,yK1 hb,K.check w _ hkey,h1,Result.andThen,hv]
theorem Mq.miss {P:Program} {w:World} {t k e:TypeId} {b:Nat} {l:List (Value×Value)} (ht:P.underlying t=some (.map k e)) (K:Keyed P k) (h:Mq w b l) {x:Value} {lx:Lit} (hkey:keyOf P k x=some lx) {z:Value} (ok:Bool)
 (hz:(zeroValue e).run P w=.ok z w) (hl:∀p∈l,∃m,keyOf P k p.1=some m) (hx:∀p∈l,p.1≠x):(Instr.lookup t (.map (some b)) x ok).run P w=.ok (if ok then .tuple #[z,.bool false]else z) w:=by
 obtain⟨es,clock,hb,he⟩:=h;rcases K.find w hkey es.toList (fun y hy=>hl _ (Mq.mem he hy))with⟨h1,h2⟩|⟨j,e0,h1,h2,h3⟩
 · simp[Instr.lookup,yZ0 ht,yK1 hb,K.check w _ hkey,h1,hz,Result.andThen]
 · exact absurd h3 (hx _ (Mq.mem he (yL1 h2)))
theorem yN6 {P:Program} (w:World) {ops:Array Oper} {rest:List Oper} {o:Oper} {a:Act} {Q:Exit→Act→World→Prop}
 (hg:o.guard=none) (m x v:Operand) (t:TypeId) (hop:o.op=Op.insert t m x v) (k e:TypeId) (ht:P.underlying t=some (.map k e)) (K:Keyed P k) (b:Nat) (l:List (Value×Value))
 (hm:a.eval m=.map (some b)) (h:Mq w b l) (z u:Value) (hx:a.eval x=z) (hv:a.eval v=u) (lz:Lit) (hkey:keyOf P k z=some lz) (hl:∀p∈l,∃m,keyOf P k p.1=some m) (hne:∀p∈l,p.1≠z)
 (hK:∀w',Mq w' b (l++[(z,u)])→w.grownBy w' (some b)→wpList P ops Q rest (a.put o.dst undef) w'):wpList P ops Q (o::rest) a w:=by
 refine wpList_plain hg fun K' hK'=> ?_;obtain⟨w',hrun,r1,r2⟩:=h.put ht K hkey u hl hne;unfold Oper.wp;simp[execOp,hop,hm,hx,hv,hrun,Result.andThen]
 exact hK' _ _ (hK w' r1 r2)
theorem yO6 {B b:Nat} {w0 w w':World} (h:Below B w0 w) (hg:w.grownBy w' (some b)) (hB:B≤b) (hs:B≤w.heap.size):Below B w0 w':=
 ⟨hg.os.trans h.os,hg.tape.trans h.tape,hg.output.trans h.output,xN h.size hg.size,fun i hi=>(hg.block i yEn (fun e=>by injection e with e;omega)).trans (h.block i hi)⟩
end
end Go.Proofs.YtcfbjdplhgdpfaaGreatDoor

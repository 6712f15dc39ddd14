import Derived.Test.YtcfbjdplhgdpfaaGreatDoorTaj
set_option maxHeartbeats 3200000
set_option maxRecDepth 10000
namespace Go.Proofs.YtcfbjdplhgdpfaaGreatDoor
set_option linter.unusedVariables false
set_option linter.unusedSimpArgs false
theorem zKn {P:Prop}(h:P:=by unfold xFb;decide):P:=h
abbrev zC2:=@Int.mul_nonneg
abbrev zT1:=@Int.lt_or_le
abbrev yG0:=@decide_eq_false
section
open Go.RowKit
theorem yLk (x y:Int) (A B:Option Addr) (l m:List Nat) (c d:Nat) (w:World) (hA:Sz w A l) (hB:Sz w B m) (ol:Ok l) (om:Ok m) (nl:yJa l) (nm:yJa m) (hv:val l=x.natAbs) (hv':val m=y.natAbs) (hl:l.length≤50) (hm:m.length≤50) (hy:y≠0):
 Calls Tryz.prog 230 #[.agg #[.int .i64 x.sign,.slice A l.length c],.agg #[.int .i64 y.sign,.slice B m.length d]] w (zCe x y w):=by
 by_cases h0:x.sign*((x.natAbs%y.natAbs:Nat):Int)=0
 · exact zFe x y A B l m c d w hA hB ol om nl nm hv hv' hl hm hy (.inl h0)
 · by_cases h1:(x.sign*((x.natAbs%y.natAbs:Nat):Int)).sign=y.sign
   · exact zFe x y A B l m c d w hA hB ol om nl nm hv hv' hl hm hy (.inr h1)
   · exact zXk x y A B l m c d w hA hB ol om nl nm hv hv' hl hm hy h0 h1
theorem yMk (x y:Int) (hy:y≠0):(fq x y).natAbs≤x.natAbs:=by
 unfold fq;have key:∀a b:Int,0<b→(a/b).natAbs≤a.natAbs:=by
  intro a b hb;have h1:=zK2 a b;have h2:=zI2 a (show b≠0 by omega);have h3:=zJ2 a hb;rcases zT1 a 0 with ha|ha
  · have h4:a/b<0:=Int.ediv_neg_of_neg_of_pos ha hb
    have h8:a*b≤a:=by
     have h9:0≤(-a)*(b-1):=zC2 yEn yEn;have h10:(-a)*(b-1)=a-a*b:=by rw[Int.mul_sub,Int.mul_one,xK2];omega
     omega
    have h5:a≤a/b:=Int.le_ediv_of_mul_le hb h8;omega
  · have h4:0≤a/b:=Int.ediv_nonneg ha yEn
    have h5:a/b≤a:=Int.ediv_le_self _ ha;omega
 split
 · rename_i h;exact key x y h
 · have:=key (-x) (-y) yEn
   omega
theorem yNk (x y:Int) (hy:y≠0):(fr x y).natAbs≤y.natAbs:=by
 obtain⟨h1,h2⟩:=xOf (x:=x) hy;rcases zY1 y 0 with h|h|h
 · have:=h2 h;omega
 · exact absurd h hy
 · have:=h1 h;omega
theorem yOk (x y:Int) (hx:x.natAbs<lim) (hy:y.natAbs<lim) (h0:y≠0):zB6 228 x y (zG6 (fq x y)) (zH6 (fq x y)):=by
 intro A B l m c d w hA hB ol om nl nm hv hv' htab;have l1:=xU5 nl hv hx;have l2:=xU5 nm hv' hy;have hD:=fun w1 h1 h2=>yLk x y A B l m c d w1 h1 h2 ol om nl nm hv hv' yEn yEn h0;have hs0:(y.sign==0)=false:=zT0.2 fun h=>h0 (xB2 h);have hZ:=zXe y.sign false hs0;have hl:(fq x y).natAbs<lim:=yT1 (yMk x y h0) hx;obtain⟨q,hq⟩:∃q,q=x.sign:=⟨_,rfl⟩
 obtain⟨q',hq'⟩:∃q,q=y.sign:=⟨_,rfl⟩
 obtain⟨q1,hq1⟩:∃q,q=(fq x y).sign:=⟨_,rfl⟩
 obtain⟨q2,hq2⟩:∃q,q=(fr x y).sign:=⟨_,rfl⟩
 rw[←hq,←hq']at hD ⊢;rw[←hq']at hZ;have HD:=zC hD;have HZ:=zC hZ;have HQ:=zC (And.intro hq1 hq2);have HL:=zC hl;clear hD hZ hs0 hq hq' hq1 hq2 hx hy hl;go_in;go_wp2_with fail;have hN1:=(Nb.new w q A l.length c).alloc (.cells #[.int .i64 q',.slice B m.length d] 200);have hM1:=Nb.new (w.alloc (.cells #[.int .i64 q,.slice A l.length c] 200)) q' B m.length d;rw[show(w.alloc (.cells #[.int .i64 q,.slice A l.length c] 200)).heap.size=w.heap.size+1 by simp]at hM1;have hW:Below w.heap.size w ((w.alloc (.cells #[.int .i64 q,.slice A l.length c] 200)).alloc (.cells #[.int .i64 q',.slice B m.length d] 200)):=((zI _ _).alloc (zR _) _).alloc yHn _;generalize ((w.alloc (.cells #[.int .i64 q,.slice A l.length c] 200)).alloc (.cells #[.int .i64 q',.slice B m.length d] 200))=W at hN1 hM1 hW ⊢;have k0:=hN1.c0;have k1:=hN1.c1;have k2:=hM1.c0;have k3:=hM1.c1;refine(HZ.out _).mono ?_;rintro e W1 ⟨rfl,rfl⟩;go_wp2_with fail;refine(HD.out _ (hA.below hW) (hB.below hW)).mono ?_;rintro e w2 ⟨_,_,rfl,⟨P1,m1,c1,rfl,hS1,ok1,nm1,hv1⟩,⟨P2,m2,c2,rfl,hS2,ok2,nm2,hv2⟩,hb2⟩;rw[←HQ.out.1,←HQ.out.2];have hb:=hW.trans (hb2.mono hW.size);have hWB:Below w2.heap.size w2 ((w2.alloc (.cells #[.int .i64 q1,.slice P1 m1.length c1] 200)).alloc (.cells #[.int .i64 q2,.slice P2 m2.length c2] 200)):=((zI _ _).alloc (zR _) _).alloc yHn _;have hbb:=hb.trans (hWB.mono hb.size);go_wp2_with fail;refine(zJ6 HQ.out.1 P1 m1 c1 _ (hS1.below hWB) ok1 nm1 hv1 (xN (xU5 nm1 hv1 HL.out) yCn) (htab.below hbb)).mono ?_;rintro e w3 ⟨rfl,hb3⟩;go_wp2_with fail;go_ret2;exact⟨rfl,hbb.trans (hb3.mono hbb.size)⟩
theorem yPk (x:Int):zB6 228 x 0 ⟨#[]⟩ 5:=by
 intro A B l m c d w hA hB ol om nl nm hv hv' htab;have hZ:=zXe 0 true rfl;have HZ:=zC hZ;rw[xA2];generalize x.sign=q;clear hZ hv hv';go_in;go_wp2_with fail;refine(HZ.out _).mono ?_;rintro e W1 ⟨rfl,rfl⟩;go_wp2_with fail;go_ret2;exact⟨rfl,((zI _ _).alloc (zR _) _).alloc yHn _⟩
theorem yQk (x y:Int) (hx:x.natAbs<lim) (hy:y.natAbs<lim) (h0:y≠0):zB6 231 x y (zG6 (fr x y)) (zH6 (fr x y)):=by
 intro A B l m c d w hA hB ol om nl nm hv hv' htab;have l1:=xU5 nl hv hx;have l2:=xU5 nm hv' hy;have hD:=fun w1 h1 h2=>yLk x y A B l m c d w1 h1 h2 ol om nl nm hv hv' yEn yEn h0;have hs0:(y.sign==0)=false:=zT0.2 fun h=>h0 (xB2 h);have hZ:=zXe y.sign false hs0;have hl:(fr x y).natAbs<lim:=yT1 (yNk x y h0) hy;obtain⟨q,hq⟩:∃q,q=x.sign:=⟨_,rfl⟩
 obtain⟨q',hq'⟩:∃q,q=y.sign:=⟨_,rfl⟩
 obtain⟨q1,hq1⟩:∃q,q=(fq x y).sign:=⟨_,rfl⟩
 obtain⟨q2,hq2⟩:∃q,q=(fr x y).sign:=⟨_,rfl⟩
 rw[←hq,←hq']at hD ⊢;rw[←hq']at hZ;have HD:=zC hD;have HZ:=zC hZ;have HQ:=zC (And.intro hq1 hq2);have HL:=zC hl;clear hD hZ hs0 hq hq' hq1 hq2 hx hy hl;go_in;go_wp2_with fail;have hN1:=(Nb.new w q A l.length c).alloc (.cells #[.int .i64 q',.slice B m.length d] 200);have hM1:=Nb.new (w.alloc (.cells #[.int .i64 q,.slice A l.length c] 200)) q' B m.length d;rw[show(w.alloc (.cells #[.int .i64 q,.slice A l.length c] 200)).heap.size=w.heap.size+1 by simp]at hM1;have hW:Below w.heap.size w ((w.alloc (.cells #[.int .i64 q,.slice A l.length c] 200)).alloc (.cells #[.int .i64 q',.slice B m.length d] 200)):=((zI _ _).alloc (zR _) _).alloc yHn _;generalize ((w.alloc (.cells #[.int .i64 q,.slice A l.length c] 200)).alloc (.cells #[.int .i64 q',.slice B m.length d] 200))=W at hN1 hM1 hW ⊢;have k0:=hN1.c0;have k1:=hN1.c1;have k2:=hM1.c0;have k3:=hM1.c1;refine(HZ.out _).mono ?_;rintro e W1 ⟨rfl,rfl⟩;go_wp2_with fail;refine(HD.out _ (hA.below hW) (hB.below hW)).mono ?_;rintro e w2 ⟨_,_,rfl,⟨P1,m1,c1,rfl,hS1,ok1,nm1,hv1⟩,⟨P2,m2,c2,rfl,hS2,ok2,nm2,hv2⟩,hb2⟩;rw[←HQ.out.1,←HQ.out.2];have hb:=hW.trans (hb2.mono hW.size);have hWB:Below w2.heap.size w2 ((w2.alloc (.cells #[.int .i64 q1,.slice P1 m1.length c1] 200)).alloc (.cells #[.int .i64 q2,.slice P2 m2.length c2] 200)):=((zI _ _).alloc (zR _) _).alloc yHn _;have hbb:=hb.trans (hWB.mono hb.size);go_wp2_with fail;refine(zJ6 HQ.out.2 P2 m2 c2 _ (hS2.below hWB) ok2 nm2 hv2 (xN (xU5 nm2 hv2 HL.out) yCn) (htab.below hbb)).mono ?_;rintro e w3 ⟨rfl,hb3⟩;go_wp2_with fail;go_ret2;exact⟨rfl,hbb.trans (hb3.mono hbb.size)⟩
theorem yRk (x:Int):zB6 231 x 0 ⟨#[]⟩ 5:=by
 intro A B l m c d w hA hB ol om nl nm hv hv' htab;have hZ:=zXe 0 true rfl;have HZ:=zC hZ;rw[xA2];generalize x.sign=q;clear hZ hv hv';go_in;go_wp2_with fail;refine(HZ.out _).mono ?_;rintro e W1 ⟨rfl,rfl⟩;go_wp2_with fail;go_ret2;exact⟨rfl,((zI _ _).alloc (zR _) _).alloc yHn _⟩
theorem ySk (x y:Int) (w:World) (hx:x.natAbs<lim) (hy:y.natAbs<lim) (h0:y≠0) (htab:Tab w):Calls Tryz.prog 203 #[.string (S x),.string (S y)] w (OpPost (fq x y) w):=by
 have hT:=zC6 228 (yJ1 Tryz.func228 zYn rfl) x y _ _ w hx hy htab (yOk x y hx hy h0);have HT:=zC hT;obtain⟨r,hr⟩:∃r,r=zG6 (fq x y):=⟨_,rfl⟩
 obtain⟨ec,hec⟩:∃r,r=zH6 (fq x y):=⟨_,rfl⟩
 rw[←hr,←hec]at HT;have HE:=zC (And.intro hr hec);clear hT hr hec hx hy;go_in;go_wp2_with fail;refine HT.out.mono ?_;rintro e w1 ⟨rfl,hb⟩;go_wp2_with fail;go_ret2;exact⟨by rw[←HE.out.1,←HE.out.2];rfl,hb⟩
theorem yTk (s t:ByteArray) (w:World) (hs:s.size≤maxLen) (ht:t.size≤maxLen) (h:(yLe s.data.toList&&yLe t.data.toList)=false):Calls Tryz.prog 203 #[.string s,.string t] w (ArgNo w):=by
 have hT:=fun fv=>zF6 fv s t w hs ht h;have HT:=zC hT;clear hT h;go_in;go_wp2_with fail;refine(HT.out _).mono ?_;rintro e w1 ⟨rfl,hb⟩;go_wp2_with fail;go_ret2;exact⟨rfl,hb⟩
theorem yUk (x:Int) (w:World) (hx:x.natAbs<lim) (htab:Tab w):Calls Tryz.prog 203 #[.string (S x),.string (S 0)] w fun e w'=>e=.returned (.tuple #[.string ⟨#[]⟩,.int .i64 5])∧Below w.heap.size w w':=by
 have hT:=zC6 228 (yJ1 Tryz.func228 zYn rfl) x 0 _ _ w hx (by exact zZe) htab (yPk x);have HT:=zC hT;clear hT hx;go_in;go_wp2_with fail;refine HT.out.mono ?_;rintro e w1 ⟨rfl,hb⟩;go_wp2_with fail;go_ret2;exact⟨rfl,hb⟩
theorem yVk (x y:Int) (w:World) (hx:x.natAbs<lim) (hy:y.natAbs<lim) (h0:y≠0) (htab:Tab w):Calls Tryz.prog 204 #[.string (S x),.string (S y)] w (OpPost (fr x y) w):=by
 have hT:=zC6 231 (yJ1 Tryz.func231 zYn rfl) x y _ _ w hx hy htab (yQk x y hx hy h0);have HT:=zC hT;obtain⟨r,hr⟩:∃r,r=zG6 (fr x y):=⟨_,rfl⟩
 obtain⟨ec,hec⟩:∃r,r=zH6 (fr x y):=⟨_,rfl⟩
 rw[←hr,←hec]at HT;have HE:=zC (And.intro hr hec);clear hT hr hec hx hy;go_in;go_wp2_with fail;refine HT.out.mono ?_;rintro e w1 ⟨rfl,hb⟩;go_wp2_with fail;go_ret2;exact⟨by rw[←HE.out.1,←HE.out.2];rfl,hb⟩
theorem yWk (s t:ByteArray) (w:World) (hs:s.size≤maxLen) (ht:t.size≤maxLen) (h:(yLe s.data.toList&&yLe t.data.toList)=false):Calls Tryz.prog 204 #[.string s,.string t] w (ArgNo w):=by
 have hT:=fun fv=>zF6 fv s t w hs ht h;have HT:=zC hT;clear hT h;go_in;go_wp2_with fail;refine(HT.out _).mono ?_;rintro e w1 ⟨rfl,hb⟩;go_wp2_with fail;go_ret2;exact⟨rfl,hb⟩
theorem yXk (x:Int) (w:World) (hx:x.natAbs<lim) (htab:Tab w):Calls Tryz.prog 204 #[.string (S x),.string (S 0)] w fun e w'=>e=.returned (.tuple #[.string ⟨#[]⟩,.int .i64 5])∧Below w.heap.size w w':=by
 have hT:=zC6 231 (yJ1 Tryz.func231 zYn rfl) x 0 _ _ w hx (by exact zZe) htab (yRk x);have HT:=zC hT;clear hT hx;go_in;go_wp2_with fail;refine HT.out.mono ?_;rintro e w1 ⟨rfl,hb⟩;go_wp2_with fail;go_ret2;exact⟨rfl,hb⟩
end
section
open Go.RowKit
theorem yYk {l:List UInt8} (ha:xFb l) (hc:∃c r,l=c::r∧c.toNat≠48):Lib.decDigits (xEb l)=l:=by
 have hne:l≠[]:=by obtain⟨c,r,rfl,_⟩:=hc;simp
 exact(xZb l ha hne (.inr hc)).symm
theorem yZk {l:List UInt8} {n:Nat} (hn:xEb l=n) (ha:xFb l) (hc:∃c r,l=c::r∧c.toNat≠48):S (n:Int)=⟨l.toArray⟩:=by
 rw[zRe (n:=n) yEn yEn,←hn,yYk ha hc]
theorem xAk {l:List UInt8} {n:Nat} (hn:xEb l=n) (h0:0<n) (ha:xFb l) (hc:∃c r,l=c::r∧c.toNat≠48):S (-(n:Int))=⟨(45::l).toArray⟩:=by
 rw[zSe (n:=n) yEn yEn,←hn,yYk ha hc]
theorem xBk:10000000000000000000000≤lim:=by unfold lim;decide+kernel
theorem xCk {z:Int} (h:z.natAbs<lim):zG6 z=S z:=by unfold zG6;rw[yA h]
theorem xDk {z:Int} (h:z.natAbs<lim):zH6 z=0:=by unfold zH6;rw[yA h]
def xEk (w:World) (e:Ending) (w':World):Prop:=e=.returned (.bool true)∧Below w.heap.size w w'
def xFk (a:ByteArray) (v:Bool):Prop:=∀w,Calls Tryz.prog 44 #[.string a] w (yXe v w)
def xGk (a b:ByteArray) (z:Int):Prop:=∀w,Calls Tryz.prog 208 #[.string a,.string b] w (xFe z w)
def xHk (a:ByteArray) (z:Int):Prop:=∀w,Calls Tryz.prog 198 #[.string a] w (xFe z w)
end
section
open Go.RowKit
def bI (b:Bool):Int:=if b then 1 else 0
theorem xIk (b:Bool):bI b=0∨bI b=1:=by cases b<;>simp[bI]
theorem xJk (b:Bool):(bI b).natAbs<lim:=by
 have:=xBk;rcases xIk b with h|h<;>rw[h]<;>simp<;>omega
def tlI (z:Int):Option Int×Int:=if z.natAbs<lim then(some z,0)else(none,8)
def dyI (k:Nat) (x y:Int):Option Int×Int:=
 match k with
 | 0=>tlI (x+y)
 | 1=>tlI (x-y)
 | 2=>tlI (x*y)
 | 3=>if y=0 then(none,5)else(some (fq x y),0)
 | 4=>if y=0 then(none,5)else(some (fr x y),0)
 | 5=>(some (if x≤y then x else y),0)
 | 6=>(some (if x≤y then y else x),0)
 | 7=>(some (bI (decide (x<y))),0)
 | 8=>(some (bI (decide (y<x))),0)
 | 9=>(some (bI (decide (x=y))),0)
 | 10=>(some (bI (!decide (x=y))),0)
 |_=>(none,1)
def dyO (k:Nat):Option Int→Option Int→Option Int×Int
 |some x,some y=>dyI k x y
 |_,_=>(none,1)
def kdL (l:List UInt8):Nat:=if l=[43]then 0 else if l=[45]then 1 else if l=[42]then 2 else if l=[37]then 3 else if l=[33]then 4 else if l=[38]then 5 else if l=[124]then 6 else if l=[60]then 7 else if l=[62]then 8 else if l=[61]then 9 else if l=[126]then 10 else 11
def mnI (k:Nat) (x:Int):Option Int×Int:=
 match k with
 | 0=>(some (-x),0)
 | 1=>(some (bI (decide (x=0))),0)
 | 2=>(some x.sign,0)
 |_=>(none,1)
def mnO (k:Nat):Option Int→Option Int×Int
 |some x=>mnI k x
 |none=>(none,1)
def kmL (l:List UInt8):Nat:=if l=[45]then 0 else if l=[126]then 1 else if l=[42]then 2 else 3
theorem xKk {z:Int}:∀v,(tlI z).1=some v→v.natAbs<lim:=by
 intro v hv;unfold tlI at hv;split at hv
 · cases hv;assumption
 · cases hv
theorem xLk {k:Nat} {x y:Int} (hx:x.natAbs<lim) (hy:y.natAbs<lim):∀v,(dyI k x y).1=some v→v.natAbs<lim:=by
 intro v hv;unfold dyI at hv;split at hv
 · exact xKk v hv
 · exact xKk v hv
 · exact xKk v hv
 · split at hv
   · cases hv
   · cases hv;exact yT1 (yMk x y (by assumption)) hx
 · split at hv
   · cases hv
   · cases hv;exact yT1 (yNk x y (by assumption)) hy
 · cases hv;split<;>assumption
 · cases hv;split<;>assumption
 · cases hv;exact xJk _
 · cases hv;exact xJk _
 · cases hv;exact xJk _
 · cases hv;exact xJk _
 · cases hv
theorem xMk {k:Nat} {x:Int} (hx:x.natAbs<lim):∀v,(mnI k x).1=some v→v.natAbs<lim:=by
 intro v hv;unfold mnI at hv;split at hv
 · cases hv;rw[xO2];exact hx
 · cases hv;exact xJk _
 · cases hv
   have:=xBk;rcases zY1 x 0 with h|h|h
   · rw[zZ1 h];simp;omega
   · subst h;simp;omega
   · rw[yA1 h];simp;omega
 · cases hv
theorem xNk {k:Nat} {x y:Int}:((dyI k x y).2=0∧(dyI k x y).1.isSome=true)∨((dyI k x y).1=none∧((dyI k x y).2=1∨(dyI k x y).2=5∨(dyI k x y).2=8)):=by
 unfold dyI tlI;split<;>(try split)<;>simp
theorem xOk {l:List UInt8} {k:Nat} (h:kdL l=k):(k=0∧l=[43])∨(k=1∧l=[45])∨(k=2∧l=[42])∨(k=3∧l=[37])∨(k=4∧l=[33])∨(k=5∧l=[38])∨(k=6∧l=[124])∨(k=7∧l=[60])∨(k=8∧l=[62])∨(k=9∧l=[61])∨(k=10∧l=[126])
 ∨(k=11∧l≠[43]∧l≠[45]∧l≠[42]∧l≠[37]∧l≠[33]∧l≠[38]∧l≠[124]∧l≠[60]∧l≠[62]∧l≠[61]∧l≠[126]):=by
 unfold kdL at h;repeat' split at h
 all_goals(subst h;simp_all)
theorem xPk {l:List UInt8} {k:Nat} (h:kmL l=k):(k=0∧l=[45])∨(k=1∧l=[126])∨(k=2∧l=[42])∨(k=3∧l≠[45]∧l≠[126]∧l≠[42]):=by
 unfold kmL at h;repeat' split at h
 all_goals(subst h;simp_all)
end
section
open Go.RowKit
theorem toList_inj {a b:ByteArray} (h:a.toList=b.toList):a=b:=by
 rw[xAe,xAe]at h;obtain⟨⟨l⟩⟩:=a;obtain⟨⟨m⟩⟩:=b;have h:l=m:=h;rw[h]
def dS (k:Nat):ByteArray:=[(⟨#[43]⟩:ByteArray),⟨#[45]⟩,⟨#[42]⟩,⟨#[37]⟩,⟨#[33]⟩,⟨#[38]⟩,⟨#[124]⟩,⟨#[60]⟩,⟨#[62]⟩,⟨#[61]⟩,⟨#[126]⟩].getD k ⟨#[]⟩
def dW (k:Nat):Bool:=[true,true,true,false,false,true,true,true,true,true,true].getD k false
def dU (k:Nat):ByteArray:=[(⟨#[48]⟩:ByteArray),⟨#[]⟩,⟨#[49]⟩].getD k ⟨#[]⟩
def xQk:Array Value:=((List.range 11).flatMap fun k=>[Value.string (dS k),Value.bool (dW k),Value.string (dU k)]).toArray
def xRk:Array Value:=#[.string ⟨#[45]⟩,.string ⟨#[126]⟩,.string ⟨#[42]⟩]
def RowAt (w:World) (g:Nat) (r:Array Value):Prop:=∃t fr,w.heap[g]?=some (.cells r t fr)
theorem RowAt.below {w w':World} {g:Nat} {r:Array Value} (h:RowAt w g r) (hb:Below w.heap.size w w'):RowAt w' g r:=by
 obtain⟨t,fr,h⟩:=h;exact⟨t,fr,(hb.block _ (zZ0.1 h).1).trans h⟩
structure SC (W:World):Prop where
 tab:Tab W
 dy:RowAt W 1 xQk
theorem SC.below {w w':World} (h:SC w) (hb:Below w.heap.size w w'):SC w':=⟨h.tab.below hb,h.dy.below hb⟩
structure SM (W:World):Prop where
 sc:SC W
 mo:RowAt W 0 xRk
theorem SM.below {w w':World} (h:SM w) (hb:Below w.heap.size w w'):SM w':=⟨h.sc.below hb,h.mo.below hb⟩
def xSk (op a b d:ByteArray) (ec:Int):Prop:=∀w,SC w→Calls Tryz.prog 158 #[.string op,.string a,.string b] w fun e w'=>e=.returned (.tuple #[.string d,.int .i64 ec])∧Below w.heap.size w w'
def xTk (op a d:ByteArray) (ec:Int):Prop:=∀w,SC w→Calls Tryz.prog 145 #[.string op,.string a] w fun e w'=>e=.returned (.tuple #[.string d,.int .i64 ec])∧Below w.heap.size w w'
def xUk (op u:ByteArray) (b:Bool):Prop:=∀w,SC w→Calls Tryz.prog 40 #[.string op] w fun e w'=>e=.returned (.tuple #[.string u,.bool b])∧Below w.heap.size w w'
def xVk:Prop:=∀w,SC w→Calls Tryz.prog 78 #[] w fun e w'=>e=.returned (.string ⟨#[43,45,42,37,33,38,124,60,62,61,126]⟩)∧Below w.heap.size w w'
def xWk:Prop:=∀w,SM w→Calls Tryz.prog 56 #[] w fun e w'=>e=.returned (.string ⟨#[45,126,42]⟩)∧Below w.heap.size w w'
def xXk:Prop:=∀{op s t:ByteArray} {o p:Option Int},op.size≤maxLen→Is s o→Is t p→xSk op s t (T (dyO (kdL op.data.toList) o p).1) (dyO (kdL op.data.toList) o p).2
def xYk:Prop:=∀{op s:ByteArray} {o:Option Int},op.size≤maxLen→Is s o→xTk op s (T (mnO (kmL op.data.toList) o).1) (mnO (kmL op.data.toList) o).2
def xZk:Prop:=∀{op:ByteArray},op.size≤maxLen→xUk op (if op.data.toList=[43]then⟨#[48]⟩else if op.data.toList=[42]then⟨#[49]⟩else⟨#[]⟩) (decide (op.data.toList=[43])||decide (op.data.toList=[42]))
theorem S_1:S 1=⟨#[49]⟩:=yZk (l:=[49]) (n:=1) rfl zKn ⟨_,_,rfl,by decide⟩
theorem S_0:S 0=⟨#[48]⟩:=by
 rw[zRe (n:=0) rfl yCn,xQb yCn];rfl
end
section
open Go.RowKit
def Sg (W:World) (g:Nat) (a:ByteArray) (b:Bool) (c:ByteArray):Prop:=W.heap[g]?=some (.cells #[.string a,.bool b,.string c] 89 (0,0))
section
variable {W W':World} {g:Nat} {a c:ByteArray} {b:Bool}
theorem Sg.lt (h:Sg W g a b c):g<W.heap.size:=(zZ0.1 h).1
theorem Sg.c0 (h:Sg W g a b c):W.cell? ⟨g,0,none⟩=some (.string a):=by rw[yB0 _ _ 0 _ _ _ h];rfl
theorem Sg.c1 (h:Sg W g a b c):W.cell? ⟨g,1,none⟩=some (.bool b):=by rw[yB0 _ _ 1 _ _ _ h];rfl
theorem Sg.c2 (h:Sg W g a b c):W.cell? ⟨g,2,none⟩=some (.string c):=by rw[yB0 _ _ 2 _ _ _ h];rfl
theorem Sg.fz (h:Sg W g a b c) (i:Nat):W.frozen? ⟨g,i,none⟩=false:=zA1 _ _ i _ _ h
theorem Sg.alloc (h:Sg W g a b c) (o:Obj):Sg (W.alloc o) g a b c:=(zC1 W o g h.lt).trans h
theorem Sg.new (W:World) (a:ByteArray) (b:Bool) (c:ByteArray):Sg (W.alloc (.cells #[.string a,.bool b,.string c] 89)) W.heap.size a b c:=yE W _
theorem Sg.set (h:Sg W g a b c) (a':ByteArray) (b':Bool) (c':ByteArray):Sg (((W.setCell ⟨g,0,none⟩ (.string a')).setCell ⟨g,1,none⟩ (.bool b')).setCell ⟨g,2,none⟩ (.string c')) g a' b' c':=by
 unfold Sg at*;simp[World.setCell,yD0,h]
end
theorem dix (W:World) (k:Nat) (hk:k<11):(Instr.index 119 (.agg xQk) (.int .i64 k)).run Tryz.prog W=.ok (.agg #[.string (dS k),.bool (dW k),.string (dU k)]) W:=by
 obtain rfl|rfl|rfl|rfl|rfl|rfl|rfl|rfl|rfl|rfl|rfl:k=0∨k=1∨k=2∨k=3∨k=4∨k=5∨k=6∨k=7∨k=8∨k=9∨k=10:=by omega
 all_goals kernel_rfl
theorem zAl (k:Nat) (hk:k<11):kdL (dS k).data.toList=k:=by
 obtain rfl|rfl|rfl|rfl|rfl|rfl|rfl|rfl|rfl|rfl|rfl:k=0∨k=1∨k=2∨k=3∨k=4∨k=5∨k=6∨k=7∨k=8∨k=9∨k=10:=by omega
 all_goals decide
theorem zBl (l:List UInt8):kdL l≤11:=by
 unfold kdL;repeat' split
 all_goals omega
theorem zCl {op:ByteArray} {k:Nat} (h:kdL op.data.toList=k) (hk:k<11):dS k=op:=by
 rcases xOk h with⟨rfl,e⟩|⟨rfl,e⟩|⟨rfl,e⟩|⟨rfl,e⟩|⟨rfl,e⟩|⟨rfl,e⟩|⟨rfl,e⟩|⟨rfl,e⟩|⟨rfl,e⟩|⟨rfl,e⟩|⟨rfl,e⟩|⟨rfl,e,_⟩
 all_goals first|exact absurd hk yCn|(obtain⟨⟨d⟩⟩:=op;have e:d=_:=e;subst e;rfl)
def zDl (op:ByteArray) (k:Nat):Prop:=∀w,SC w→Calls Tryz.prog 90 #[.string op] w fun e w'=>e=.returned (.agg #[.string (dS k),.bool (dW k),.string (dU k)])∧Below w.heap.size w w'
theorem zEl (op:ByteArray):zDl op (kdL op.data.toList):=by
 intro W hw;obtain⟨k0,hk0⟩:∃k0,kdL op.data.toList=k0:=⟨_,rfl⟩
 rw[hk0];have HK:=zC hk0;obtain⟨tt,fr,hg⟩:=hw.dy;have hR:=Sg.new W ⟨#[]⟩ false ⟨#[]⟩;have hB:Below W.heap.size W (W.alloc (.cells #[.string ⟨#[]⟩,.bool false,.string ⟨#[]⟩] 89)):=(zI _ _).alloc (zR _) _;have hgl:=(zZ0.1 hg).1;have hg1:=(hB.block _ hgl).trans hg;have HR:=zC hR;have HB:=zC hB;obtain⟨dr,hdr⟩:∃dr,xQk=dr:=⟨_,rfl⟩
 have HI:Hid (∀(W:World) (k:Nat),k<11→(Instr.index 119 (.agg dr) (.int .i64 k)).run Tryz.prog W=.ok (.agg #[.string (dS k),.bool (dW k),.string (dU k)]) W):=zC (by rw[←hdr];exact dix);have hds:(Tryz.prog.info? 119).map (·.size)=some dr.size:=by rw[←hdr];kernel_rfl
 rw[hdr]at hg1;have hz:=Tryz.zeroValue89;clear hk0 hg hw hdr hR hB hgl;go_in;go_wp2_with (refine wpList_load_row rfl 119 _ rfl 1 rfl tt dr fr _ hg1 Tryz.underlying119 rfl hds ?_)
 go_loopw [6] (fun iv wr=>∃k:Nat,iv=.int .i64 k∧k≤11∧Hid (∀j,j<k→dS j≠op)∧Sg wr W.heap.size ⟨#[]⟩ false ⟨#[]⟩∧Below W.heap.size W wr) (fun iv _=>11-(intOf iv).toNat)
 case atStart=>exact⟨0,rfl,by omega,zC (fun j hj=>absurd hj yEn),HR.out,HB.out⟩
 case round=>
  clear HR HB hg1;obtain⟨k,rfl,hk,hno,hR,hB⟩:=hrel;by_cases hlt:k<11
  · have hix:=fun W=>HI.out W k hlt
    have e2:(k:Int)<11:=by omega
    by_cases he:dS k=op
    · have hkk:k=k0:=by rw[←HK.out,←he];exact(zAl k hlt).symm
      have HKK:=zC hkk;have hgS:(dS k).toList=op.toList:=by rw[he]
      obtain⟨vS,hvS⟩:∃v,dS k=v:=⟨_,rfl⟩
      obtain⟨vW,hvW⟩:∃v,dW k=v:=⟨_,rfl⟩
      obtain⟨vU,hvU⟩:∃v,dU k=v:=⟨_,rfl⟩
      rw[hvS,hvW,hvU]at hix;rw[hvS]at hgS;have HV:=zC (show dS k=vS∧dW k=vW∧dU k=vU from⟨hvS,hvW,hvU⟩);clear hvS hvW hvU he hkk hno;have hX:=Sg.new wr vS vW vU;have hRX:=hR.alloc (.cells #[.string vS,.bool vW,.string vU] 89);have hBX:=hB.alloc hB.size (.cells #[.string vS,.bool vW,.string vU] 89);have x0:=hX.c0;have x1:=hX.c1;have x2:=hX.c2;have z0:=hRX.c0;have z1:=hRX.c1;have z2:=hRX.c2;have f0:=hRX.fz 0;have f1:=hRX.fz 1;have f2:=hRX.fz 2;have hRS:=hRX.set vS vW vU;have HRS:=zC hRS;have HBS:=zC (((hBX.setCell (p:=⟨W.heap.size,0,none⟩) (zR _) (.string vS)).setCell (p:=⟨W.heap.size,1,none⟩) (zR _) (.bool vW)).setCell (p:=⟨W.heap.size,2,none⟩) (zR _) (.string vU));clear hRS hBX hRX hX hR hB;go_wp2_with fail;obtain⟨g1,g2,g3⟩:=HV.out;generalize World.setCell _ _ _=w9 at*;refine zE (results_cell_row yIn _ _ W.heap.size _ _ _ _ rfl HRS.out Tryz.underlying89 rfl zYn) rfl ?_;refine⟨?_,HBS.out⟩;rw[←HKK.out,g1,g2,g3]
    · have hgS:((dS k).toList==op.toList)=false:=zT0.2 fun e=>he (toList_inj e)
      have hno':=zC (show∀j,j<k+1→dS j≠op from fun j hj=>by
       rcases zM1 j k with h|h
       · exact hno.out j h
       · obtain rfl:j=k:=by omega
         exact he)
      obtain⟨vS,hvS⟩:∃v,dS k=v:=⟨_,rfl⟩
      obtain⟨vW,hvW⟩:∃v,dW k=v:=⟨_,rfl⟩
      obtain⟨vU,hvU⟩:∃v,dU k=v:=⟨_,rfl⟩
      rw[hvS,hvW,hvU]at hix;rw[hvS]at hgS;clear hvS hvW hvU he hno;have hX:=Sg.new wr vS vW vU;have hRX:=hR.alloc (.cells #[.string vS,.bool vW,.string vU] 89);have hBX:=hB.alloc hB.size (.cells #[.string vS,.bool vW,.string vU] 89);have x0:=hX.c0;have x1:=hX.c1;have x2:=hX.c2;have HRX:=zC hRX;have HBX:=zC hBX;clear hX hRX hBX hR hB;go_wp2_with fail;go_roundw
      case rel=>exact⟨k+1,by go_num,by omega,hno',HRX.out,HBX.out⟩
      case measure=>simp[intOf];omega
  · obtain rfl:k=11:=by omega
    have h11:k0=11:=by
     have h1:=zBl op.data.toList;rw[HK.out]at h1;rcases zM1 k0 11 with h|h
     · exact absurd (zCl HK.out h) (hno.out k0 h)
     · omega
    have H11:=zC h11;have hRS:=hR.set ⟨#[]⟩ false ⟨#[]⟩;have HRS:=zC hRS;have HBS:=zC (((hB.setCell (p:=⟨W.heap.size,0,none⟩) (zR _) (.string ⟨#[]⟩)).setCell (p:=⟨W.heap.size,1,none⟩) (zR _) (.bool false)).setCell (p:=⟨W.heap.size,2,none⟩) (zR _) (.string ⟨#[]⟩));have z0:=hR.c0;have z1:=hR.c1;have z2:=hR.c2;have f0:=hR.fz 0;have f1:=hR.fz 1;have f2:=hR.fz 2;clear hRS hR hB h11 hno;go_wp2_with fail;refine zE (results_cell_row yIn _ _ W.heap.size _ _ _ _ rfl HRS.out Tryz.underlying89 rfl zYn) rfl ?_;refine⟨?_,HBS.out⟩;rw[H11.out];rfl
theorem zFl (op:ByteArray) (k:Nat) (HK:zDl op k) (u:ByteArray) (hu:dU k=u) (b:Bool) (hb:(b=true∧¬u.toList=[])∨(b=false∧u.toList=[])):xUk op u b:=by
 intro w hw;have KK:=zC HK;obtain⟨vS,hvS⟩:∃v,dS k=v:=⟨_,rfl⟩
 obtain⟨vW,hvW⟩:∃v,dW k=v:=⟨_,rfl⟩
 have hf:∀W:World,(Instr.field 89 (.agg #[.string vS,.bool vW,.string u]) 2).run Tryz.prog W=.ok (.string u) W:=fun W=>by kernel_rfl
 unfold zDl at KK;rw[hvS,hvW,hu]at KK;clear HK hvS hvW hu;rcases hb with⟨rfl,hb⟩|⟨rfl,hb⟩
 · replace hb:u.toList.isEmpty=false:=by cases h:u.toList<;>simp_all
   go_in;go_wp2_with fail;refine(KK.out _ hw).mono ?_;rintro e w1 ⟨rfl,hb⟩;go_wp2_with fail;go_ret2;exact⟨rfl,hb⟩
 · replace hb:u.toList.isEmpty=true:=by rw[hb];rfl
   go_in;go_wp2_with fail;refine(KK.out _ hw).mono ?_;rintro e w1 ⟨rfl,hb⟩;go_wp2_with fail;go_ret2;exact⟨rfl,hb⟩
theorem zGl:xZk:=by
 intro op _;obtain⟨k,hk⟩:∃k,kdL op.data.toList=k:=⟨_,rfl⟩
 have h:=zFl op _ (zEl op);rw[hk]at h;rcases xOk hk with⟨rfl,e⟩|⟨rfl,e⟩|⟨rfl,e⟩|⟨rfl,e⟩|⟨rfl,e⟩|⟨rfl,e⟩|⟨rfl,e⟩|⟨rfl,e⟩|⟨rfl,e⟩|⟨rfl,e⟩|⟨rfl,e⟩|⟨rfl,h0,h1,h2,_⟩
 · rw[e];exact h ⟨#[48]⟩ rfl true (.inl ⟨rfl,by rw[xAe];decide⟩)
 · rw[e];exact h ⟨#[]⟩ rfl false (.inr ⟨rfl,by rw[xAe]⟩)
 · rw[e];exact h ⟨#[49]⟩ rfl true (.inl ⟨rfl,by rw[xAe];decide⟩)
 · rw[e];exact h ⟨#[]⟩ rfl false (.inr ⟨rfl,by rw[xAe]⟩)
 · rw[e];exact h ⟨#[]⟩ rfl false (.inr ⟨rfl,by rw[xAe]⟩)
 · rw[e];exact h ⟨#[]⟩ rfl false (.inr ⟨rfl,by rw[xAe]⟩)
 · rw[e];exact h ⟨#[]⟩ rfl false (.inr ⟨rfl,by rw[xAe]⟩)
 · rw[e];exact h ⟨#[]⟩ rfl false (.inr ⟨rfl,by rw[xAe]⟩)
 · rw[e];exact h ⟨#[]⟩ rfl false (.inr ⟨rfl,by rw[xAe]⟩)
 · rw[e];exact h ⟨#[]⟩ rfl false (.inr ⟨rfl,by rw[xAe]⟩)
 · rw[e];exact h ⟨#[]⟩ rfl false (.inr ⟨rfl,by rw[xAe]⟩)
 · rw[zY h0,zY h2,yG0 h0,yG0 h2]
   exact h ⟨#[]⟩ rfl false (.inr ⟨rfl,by rw[xAe]⟩)
def dC (k:Nat):ByteArray:=⟨(([43,45,42,37,33,38,124,60,62,61,126]:List UInt8).take k).toArray⟩
theorem zHl {k:Nat} (hk:k<11):dC k++dS k=dC (k+1)∧(dC k).size=k∧(dS k).size=1:=by
 obtain rfl|rfl|rfl|rfl|rfl|rfl|rfl|rfl|rfl|rfl|rfl:k=0∨k=1∨k=2∨k=3∨k=4∨k=5∨k=6∨k=7∨k=8∨k=9∨k=10:=by omega
 all_goals exact⟨by decide,by decide,by decide⟩
theorem zIl:xVk:=by
 intro W hw;obtain⟨tt,fr,hg1⟩:=hw.dy;obtain⟨dr,hdr⟩:∃dr,xQk=dr:=⟨_,rfl⟩
 have HI:Hid (∀(W:World) (k:Nat),k<11→(Instr.index 119 (.agg dr) (.int .i64 k)).run Tryz.prog W=.ok (.agg #[.string (dS k),.bool (dW k),.string (dU k)]) W):=zC (by rw[←hdr];exact dix);have hds:(Tryz.prog.info? 119).map (·.size)=some dr.size:=by rw[←hdr];kernel_rfl
 rw[hdr]at hg1;have hz:=Tryz.zeroValue89;clear hw hdr;go_in;go_wp2_with (refine wpList_load_row rfl 119 _ rfl 1 rfl tt dr fr _ hg1 Tryz.underlying119 rfl hds ?_)
 go_loopw [1,5] (fun sv iv wr=>∃k:Nat,iv=.int .i64 k∧k≤11∧sv=.string (dC k)∧Below W.heap.size W wr) (fun _ iv _=>11-(intOf iv).toNat)
 case atStart=>exact⟨0,rfl,by omega,rfl,zI _ _⟩
 case round=>
  clear hg1;obtain⟨k,rfl,hk,rfl,hB⟩:=hrel;by_cases hlt:k<11
  · have hix:=fun W=>HI.out W k hlt
    have e2:(k:Int)<11:=by omega
    obtain⟨hc1,hc2,hc3⟩:=zHl hlt;obtain⟨vS,hvS⟩:∃v,dS k=v:=⟨_,rfl⟩
    obtain⟨vW,hvW⟩:∃v,dW k=v:=⟨_,rfl⟩
    obtain⟨vU,hvU⟩:∃v,dU k=v:=⟨_,rfl⟩
    obtain⟨vC,hvC⟩:∃v,dC k=v:=⟨_,rfl⟩
    rw[hvS,hvW,hvU]at hix;rw[hvS,hvC]at hc1;rw[hvC]at hc2;rw[hvS]at hc3;rw[hvC];have hs:vC.size+vS.size≤12:=by omega
    have hs1:vC.size≤12:=by omega
    have hs2:vS.size≤12:=by omega
    have HC:=zC hc1;clear hvS hvW hvU hvC hc1 hc2 hc3;have hX:=Sg.new wr vS vW vU;have hBX:=hB.alloc hB.size (.cells #[.string vS,.bool vW,.string vU] 89);have x0:=hX.c0;have x1:=hX.c1;have x2:=hX.c2;have HBX:=zC hBX;clear hX hBX hB;go_wp2_with fail;go_roundw
    case rel=>exact⟨k+1,by go_num,by omega,by rw[HC.out],HBX.out⟩
    case measure=>simp[intOf];omega
  · obtain rfl:k=11:=by omega
    go_wp2_with fail;go_ret;exact⟨rfl,hB⟩
def mS (k:Nat):ByteArray:=[(⟨#[45]⟩:ByteArray),⟨#[126]⟩,⟨#[42]⟩].getD k ⟨#[]⟩
def mC (k:Nat):ByteArray:=⟨(([45,126,42]:List UInt8).take k).toArray⟩
theorem zJl {k:Nat} (hk:k<3):mC k++mS k=mC (k+1)∧(mC k).size=k∧(mS k).size=1:=by
 obtain rfl|rfl|rfl:k=0∨k=1∨k=2:=by omega
 all_goals exact⟨by decide,by decide,by decide⟩
theorem mix (W:World) (k:Nat) (hk:k<3):(Instr.index 104 (.agg xRk) (.int .i64 k)).run Tryz.prog W=.ok (.string (mS k)) W:=by
 obtain rfl|rfl|rfl:k=0∨k=1∨k=2:=by omega
 all_goals kernel_rfl
theorem zKl:xWk:=by
 intro W hw;obtain⟨tt,fr,hg1⟩:=hw.mo;obtain⟨dr,hdr⟩:∃dr,xRk=dr:=⟨_,rfl⟩
 have HI:Hid (∀(W:World) (k:Nat),k<3→(Instr.index 104 (.agg dr) (.int .i64 k)).run Tryz.prog W=.ok (.string (mS k)) W):=zC (by rw[←hdr];exact mix);have hds:(Tryz.prog.info? 104).map (·.size)=some dr.size:=by rw[←hdr];kernel_rfl
 rw[hdr]at hg1;clear hw hdr;go_in;go_wp2_with (refine wpList_load_row rfl 104 _ rfl 0 rfl tt dr fr _ hg1 Tryz.underlying104 rfl hds ?_)
 go_loopw [1,5] (fun sv iv wr=>∃k:Nat,iv=.int .i64 k∧k≤3∧sv=.string (mC k)∧wr=W) (fun _ iv _=>3-(intOf iv).toNat)
 case atStart=>exact⟨0,rfl,by omega,rfl,rfl⟩
 case round=>
  obtain⟨k,rfl,hk,rfl,rfl⟩:=hrel;by_cases hlt:k<3
  · have hix:=fun W=>HI.out W k hlt
    have e2:(k:Int)<3:=by omega
    obtain⟨hc1,hc2,hc3⟩:=zJl hlt;obtain⟨vS,hvS⟩:∃v,mS k=v:=⟨_,rfl⟩
    obtain⟨vC,hvC⟩:∃v,mC k=v:=⟨_,rfl⟩
    rw[hvS]at hix;rw[hvS,hvC]at hc1;rw[hvC]at hc2;rw[hvS]at hc3;rw[hvC];have hs:vC.size+vS.size≤12:=by omega
    have hs1:vC.size≤12:=by omega
    have hs2:vS.size≤12:=by omega
    have HC:=zC hc1;clear hvS hvC hc1 hc2 hc3;go_wp2_with fail;go_roundw
    case rel=>exact⟨k+1,by go_num,by omega,by rw[HC.out],by first|rfl|trivial⟩
    case measure=>simp[intOf];omega
  · obtain rfl:k=3:=by omega
    go_wp2_with fail;go_ret;exact⟨rfl,zI _ _⟩
end
end Go.Proofs.YtcfbjdplhgdpfaaGreatDoor

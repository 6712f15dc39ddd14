import Derived.Test.YtcfbjdplhgdpfaaGreatDoorTae
set_option maxHeartbeats 1600000
set_option maxRecDepth 10000
namespace Go.Proofs.YtcfbjdplhgdpfaaGreatDoor
set_option linter.unusedVariables false
set_option linter.unusedSimpArgs false
theorem yYm {P:Prop}(h:P:=by simp[results,Tryz.results243,go_sem]):P:=h
abbrev xB2:=@Int.eq_zero_of_sign_eq_zero
abbrev xA2:=@Int.sign_zero
abbrev yZ2:=@Int.lt_or_eq_of_le
abbrev yY2:=@ByteArray.data_append
abbrev zF2:=@Int.one_mul
abbrev yD1:=@ByteArray.ext
abbrev yA1:=@Int.sign_eq_one_of_pos
abbrev zZ1:=@Int.sign_eq_neg_one_of_neg
abbrev zI1:=@decide_eq_true_eq
abbrev zG1:=@Bool.and_eq_true
abbrev yI0:=@decide_eq_true
abbrev zT0:=@beq_eq_false_iff_ne
abbrev zM0:=@Go.Lib.add_plain
abbrev zK0:=@Go.run_convert_bytes_back
abbrev zE:=@Go.bodyPost_ret
section
open Go.RowKit
theorem zGe {l:List Nat} (ol:Ok l) (k:Nat):val (l.drop k)<10^(9*l.length):=by
 have h1:=yVa (ySa ol k);have h2:1000000000^(l.drop k).length≤1000000000^l.length:=yM1 yCn yHn;rw[Nat.pow_mul];exact yF h1 h2
theorem zHe {l:List Nat} (ol:Ok l) (hne:l≠[]) (k:Nat):(Lib.decDigits (val (l.drop k))).length≤9*l.length:=
 (zAc (by have:=zE0.2 hne;omega)).2 (zGe ol k)
theorem zIe {l:List Nat} (nl:yJa l) {k:Nat} (hk:k<l.length):0<val (l.drop k):=by
 obtain⟨m,a,rfl,ha⟩:=xFa nl (by rintro rfl;simp at hk);rw[zC0]at hk;simp only[yC1,xR1]at hk;rw[yO1 yEn,yNa];have:0<1000000000^(m.drop k).length*a:=Nat.mul_pos (yH1 yCn) yEn;omega
theorem zJe {l:List Nat} (ol:Ok l) (nl:yJa l) {k:Nat} (hk:k+1<l.length):
 Lib.decDigits (val (l.drop (k+1)))++(Lib.decDigits (1000000000+l[k]' yEn)).drop 1=Lib.decDigits (val (l.drop k)):=by
 rw[xL1 (show k<l.length by omega),yLa,Nat.add_comm (l[k]' yEn),yP1 1000000000];exact zDc (k:=9) (zIe nl hk) (yTa ol yEn)
theorem zKe {w:World} {base n:Nat} {v:Value} {l:List UInt8} (h:w.ownsRow base 5 1 v n (Lib.byteCells l)) (hn:n=l.length) (hne:l≠[]):∃g c,v=.slice (some ⟨g,0,none⟩) n c∧
 (convert 137 9 (.slice (some ⟨g,0,none⟩) n c)).run Tryz.prog w=.ok (.string ⟨l.toArray⟩) w:=by
 rcases h.2 with⟨_,h0⟩|⟨g,cap,cur,rfl,_,hg,h1,h2,h3,h4⟩
 · exact absurd (yR1 (hn▸h0)) hne
 · subst hn
   refine⟨g,cap,rfl,zK0 (P:=Tryz.prog) w 137 9 5 ⟨g,0,none⟩ cap l Tryz.underlying137 Tryz.underlying5 Tryz.underlying9 (fun j hj=> ?_)⟩;rw[zM0,yB0 w g (0+j) cur 5 (0,0) hg,zP0];have:(cur.toList.take (l.length*1))[j]?=(Lib.byteCells l)[j]?:=by rw[h4]
   rw[yU0 yEn]at this;rw[←yV0,this];simp[Lib.byteCells,hj]
theorem zLe {w w':World} {base e n:Nat} {v:Value} {xs:List Value} (h:w.ownsRow base e 1 v n xs) (hb:Below w.heap.size w w'):w'.ownsRow base e 1 v n xs:=by
 refine⟨h.1,?_⟩;rcases h.2 with h0|⟨g,cap,cur,e1,e2,hg,h2⟩
 · exact .inl h0
 · exact .inr ⟨g,cap,cur,e1,e2,(hb.block g (zZ0.1 hg).1).trans hg,h2⟩
theorem zMe (A:Option Addr) (l:List Nat) (c:Nat) (w:World) (hA:Sz w A l) (ol:Ok l) (nl:yJa l) (hl:l.length≤1000) (htab:Tab w):
 Calls Tryz.prog 246 #[.slice A l.length c] w fun e w'=>e=.returned (.string ⟨(Lib.decDigits (val l)).toArray⟩)∧Below w.heap.size w w':=by
 by_cases hne:l=[]
 · subst hne
   have h0:Lib.decDigits (val [])=[48]:=by rw[yKa,xQb yEn];rfl
   rw[h0];have hz:(((([]:List Nat).length:Nat):Int)==0)=true:=by rfl
   go_in;go_wp2_with fail;go_ret;exact⟨rfl,zI _ _⟩
 · obtain⟨b,o,rfl,hlt,hcell⟩:=hA.at_ hne
   have h1:1≤l.length:=zE0.2 hne;obtain⟨n,hn⟩:∃n,l.length=n+1:=⟨l.length-1,by omega⟩
   have hcn:=hcell n yEn;have hln:=yTa ol (show n<l.length by omega);have hz:(((n:Int)+1)==0)=false:=by simp;omega
   obtain⟨i0,hi,hz0,hz1,hz2⟩:=zF (show(Tryz.prog.info? 5).map (fun i=>(i.zero,i.size,i.bytes))=some (some (.int .u8 0),1,1)by kernel_rfl);have hst:l.drop n=[l[n]]:=by rw[xL1 yEn,List.drop_of_length_le yEn]
   have hst2:Lib.decDigits (val (l.drop n))=Lib.decDigits l[n]:=by rw[hst];simp[val]
   have HS:=zC hst2;have HL:=zC hn;rw[hn];clear hst hst2 hA;go_in;go_wp2_with fail;refine(yH3 l[n] yEn _ htab).mono ?_;rintro e w1 ⟨v1,rfl,hown,hb⟩;rw[←HS.out]at hown;have htab1:=htab.below hb;go_wp2_with fail;go_loopw [4,5] (fun v iv wr=>∃(k n':Nat),k≤n∧iv=.int .i64 ((k:Int)-1)∧n'=(Lib.decDigits (val (l.drop k))).length∧wr.ownsRow w.heap.size 5 1 v n' (Lib.byteCells (Lib.decDigits (val (l.drop k))))∧Below w.heap.size w wr) (fun _ iv _=>(intOf iv+1).toNat)
   case atStart=>exact⟨n,_,zR _,rfl,rfl,hown,hb⟩
   case round=>
    clear hown hb htab1 HS hcn hln;obtain⟨k,n',hk,rfl,hn',hown,hB⟩:=hrel;rcases k with _|k
    · obtain⟨g,c',hv,hcv⟩:=zKe hown hn' (xVb _)
      rw[yS1]at hcv;clear hown hn';go_wp2_with fail;go_ret;exact⟨rfl,hB⟩
    · have hcl:=(hB.cell (p:=⟨b,o+k,none⟩) hlt).trans (hcell k yEn)
      have hpl:=yTa ol (show k<l.length by omega);have hJ:=zC (zJe ol nl (k:=k) yEn);have hle:=zHe ol hne (k+1);rw[←hn']at hle;have hpad:=(zCc (r:=l[k]) (k:=9) hpl).2.2;have e1:((k+1:Nat):Int)-1=(k:Int):=by omega
      rw[e1];have HN:=zC hn';have HP:=zC hpad;clear e1 hn' hpad;go_wp2_with fail;refine(yG3 (1000000000+l[k]) yEn yEn _ (htab.below hB)).mono ?_;rintro e w2 ⟨rfl,hb2⟩;have hown2:=zLe hown hb2;have hB2:=hB.trans (hb2.mono hB.size);obtain⟨t,ht,ht1,ht2⟩:∃t:ByteArray,t=⟨(Lib.decDigits (1000000000+l[k])).toArray⟩∧t.size=10∧(t.extract 1 t.size).data.toList=(Lib.decDigits (1000000000+l[k])).drop 1:=by
       have h10:(Lib.decDigits (1000000000+l[k])).length=10:=by
        have:=HP.out;rw[xB0]at this;show(Lib.decDigits (10^9+l[k])).length=10;omega
       have h11:(⟨(Lib.decDigits (1000000000+l[k])).toArray⟩:ByteArray).size=10:=by simpa[ByteArray.size]using h10
       refine⟨_,rfl,h11,?_⟩;rw[zJ7,h11];show List.drop 1 (List.take 10 (Lib.decDigits (1000000000+l[k])))=_;rw[yW yEn]
      rw[←ht];have HT:=zC (And.intro ht ht2);have hts:(t.extract 1 t.size).size=9:=by
       have h12:(t.extract 1 t.size).data.toList.length=9:=by rw[ht2];exact HP.out
       rwa [Array.length_toList]at h12
      have HTS:=zC hts;have ht1':(10:Int)≤(t.size:Int):=by omega
      have HT1:=zC ht1;clear hown hb2 hB hts ht ht2 ht1 hcell;go_wp2_with (at_builtin;(refine Lib.wpList_append_own_string _ rfl (.tmp 32) (.tmp 34) 137 9 rfl w.heap.size 5 i0 Tryz.underlying137 Tryz.underlying9 hi hz0 hz1 hz2 _ n' _ rfl hown2 (t.extract 1 t.size) rfl ?c1 ?c2 ?c3 ?_))
      case c1=>rw[HTS.out];unfold maxLen;omega
      case c2=>rw[HTS.out];omega
      case c3=>exact hB2.size
      intro v' w3 hown3 hgrow _;have hB3:Below w.heap.size w w3:=hB2.grown hgrow hB2.size (fun q hq=>(hown2.lt q hq).1);clear hgrow hown2 hB2;go_wp2_with fail;go_roundw
      case rel=>
       refine⟨k,n'+(t.size-1),by omega,rfl,?_,?_,hB3⟩
       · rw[HT1.out,←hJ.out,zC0,HP.out,←HN.out]
       · rw[←hJ.out,Lib.byteCells_append,←HT.out.2]
         exact hown3
      case measure=>simp[intOf]
end
section
open Go.RowKit
def zNe (w:World) (v:Value) (x:Int):Prop:=∃A l c,v=.agg #[.int .i64 x.sign,.slice A l.length c]∧Sz w A l∧Ok l∧yJa l∧val l=x.natAbs
theorem zOe {s:Int} {n:Nat} (hs:s=1∨s= -1):(s*(n:Int)).sign=(if n=0 then 0 else s)∧(s*(n:Int)).natAbs=n:=by
 rcases hs with rfl|rfl
 · rw[zF2]
   constructor
   · split
     · rename_i h;subst h;rfl
     · exact yA1 yEn
   · omega
 · rw[show(-1:Int)*(n:Int)= -(n:Int)by omega]
   constructor
   · split
     · rename_i h;subst h;rfl
     · exact zZ1 yEn
   · omega
def zPe (x:Int) (w:World) (e:Ending) (w':World):Prop:=∃v,e=.returned v∧zNe w' v x∧Below w.heap.size w w'
theorem zQe (s:Int) (A:Option Addr) (l:List Nat) (c:Nat) (w:World) (hA:Sz w A l) (ol:Ok l) (nl:yJa l) (hs:s=1∨s= -1∨l=[]) (hl:l.length≤1000):
 Calls Tryz.prog 243 #[.int .i64 s,.slice A l.length c] w (zPe (s*(val l:Int)) w):=by
 by_cases hne:l=[]
 · subst hne
   have hz:(((([]:List Nat).length:Nat):Int)==0)=true:=by rfl
   go_in;go_wp2_with fail;exact zE (v:=.agg #[.int .i64 0,.slice none 0 0]) yYm rfl ⟨_,rfl,⟨none,[],0,by rw[yKa];simp,.inl ⟨rfl,rfl⟩,yQa,xEa,by rw[yKa];simp⟩,(zI _ _).alloc (zR _) _⟩
 · have h1:1≤l.length:=zE0.2 hne
   have hz:(((l.length:Nat):Int)==0)=false:=by simp;omega
   have hs2:s=1∨s= -1:=hs.elim .inl fun h=>h.elim .inr fun h=>absurd h hne;obtain⟨e1,e2⟩:=zOe (n:=val l) hs2;rw[zY (fun h=>hne ((xHa nl).1 h))]at e1;go_in;go_wp2_with fail;exact zE (v:=.agg #[.int .i64 s,.slice A l.length c]) yYm rfl ⟨_,rfl,⟨A,l,c,by rw[e1],hA.below ((zI _ _).alloc (zR _) _),ol,nl,e2.symm⟩,(zI _ _).alloc (zR _) _⟩
def S (x:Int):ByteArray:=⟨(Lib.itoa x).toArray⟩
theorem zRe {n:Nat} {x:Int} (h:x.natAbs=n) (h0:0≤x):S x=⟨(Lib.decDigits n).toArray⟩:=by
 unfold S Lib.itoa;rw[zY yEn,show x.toNat=n by omega]
theorem zSe {n:Nat} {x:Int} (h:x.natAbs=n) (h0:x<0):S x=⟨(45::Lib.decDigits n).toArray⟩:=by
 unfold S Lib.itoa;rw[yA h0,h]
theorem zTe (l:List UInt8):(⟨#[45]⟩:ByteArray)++⟨l.toArray⟩=⟨(45::l).toArray⟩:=by
 apply yD1;simp[yY2]
theorem zUe {x:Int} (h:0≤x):decide (x.sign<0)=false:=by
 rcases yZ2 h with h|h
 · rw[yA1 h];rfl
 · subst h;rfl
theorem zVe {l:List Nat} (ol:Ok l) (hl:l.length≤1000):(Lib.decDigits (val l)).length≤9000:=by
 by_cases hne:l=[]
 · subst hne;rw[yKa,xQb yEn];simp
 · have:=zHe ol hne 0
   rw[yS1]at this;omega
theorem zWe (s:Int) (b:Bool) (hb:decide (s<0)=b) (w:World):Calls Tryz.prog 245 #[.int .i64 s] w fun e w'=>e=.returned (.bool b)∧w=w':=by
 subst hb;by_cases h:s<0
 · go_in
   go_wp2_with fail;go_ret;exact⟨by simp[h],rfl⟩
 · go_in
   go_wp2_with fail;go_ret;exact⟨by simp[h],rfl⟩
theorem zXe (s:Int) (b:Bool) (hb:(s==0)=b) (w:World):Calls Tryz.prog 229 #[.int .i64 s] w fun e w'=>e=.returned (.bool b)∧w=w':=by
 go_in;go_wp2_with fail;go_ret;exact⟨rfl,rfl⟩
theorem zYe (x:Int) (A:Option Addr) (l:List Nat) (c:Nat) (w:World) (hA:Sz w A l) (ol:Ok l) (nl:yJa l) (hv:val l=x.natAbs) (hl:l.length≤1000) (htab:Tab w):
 Calls Tryz.prog 220 #[.agg #[.int .i64 x.sign,.slice A l.length c]] w fun e w'=>e=.returned (.string (S x))∧Below w.heap.size w w':=by
 have hf:=fun(w1:World) (h1:Below w.heap.size w w1)=>zMe A l c w1 (hA.below h1) ol nl hl (htab.below h1);have HF:=zC hf;clear hf;by_cases h0:x<0
 · have hs:x.sign= -1:=zZ1 h0
   rw[hs];have HS:=zC (zSe rfl h0);have hdl:=zVe ol hl;rw[hv]at HF hdl;clear hs hv;go_in;go_wp2_with fail;refine(zWe _ true rfl _).mono ?_;rintro e w1 ⟨rfl,rfl⟩;go_wp2_with fail;refine(HF.out _ ((zI _ _).alloc (zR _) _)).mono ?_;rintro e w1 ⟨rfl,hb⟩;go_wp2_with fail;go_ret;exact⟨xPa (by rw[HS.out,←zTe];rfl),((zI _ _).alloc (zR _) _).trans (hb.mono yHn)⟩
 · have hs:=zUe (x:=x) yEn
   have HS:=zC (zRe rfl (by omega:0≤x));rw[hv]at HF;have HB:=zC (zWe _ _ hs);clear hs hv;go_in;go_wp2_with fail;refine(HB.out _).mono ?_;rintro e w1 ⟨rfl,rfl⟩;go_wp2_with fail;refine(HF.out _ ((zI _ _).alloc (zR _) _)).mono ?_;rintro e w1 ⟨rfl,hb⟩;go_wp2_with fail;go_ret;exact⟨xPa HS.out.symm,((zI _ _).alloc (zR _) _).trans (hb.mono yHn)⟩
end
section
open Go.RowKit
def lim:Nat:=10^100
theorem zZe:0<lim:=by unfold lim;exact yH1 yCn
theorem yAe (n:Nat):(Lib.decDigits n).length≤100↔n<lim:=by unfold lim;exact zAc yCn
def yBe (x:Int):Value:=if x.natAbs<lim then .tuple #[.string (S x),.int .i64 0]else .tuple #[.string ⟨#[]⟩,.int .i64 8]
theorem yCe {x:Int} (h:x.natAbs<lim):yBe x=.tuple #[.string (S x),.int .i64 0]:=by unfold yBe;rw[yA h]
theorem yDe {x:Int} (h:¬x.natAbs<lim):yBe x=.tuple #[.string ⟨#[]⟩,.int .i64 8]:=by unfold yBe;rw[zY h]
theorem yEe (x:Int) (A:Option Addr) (l:List Nat) (c:Nat) (w:World) (hA:Sz w A l) (ol:Ok l) (nl:yJa l) (hv:val l=x.natAbs) (hl:l.length≤1000) (htab:Tab w):
 Calls Tryz.prog 224 #[.agg #[.int .i64 x.sign,.slice A l.length c]] w fun e w'=>e=.returned (yBe x)∧Below w.heap.size w w':=by
 have hf:=fun(w1:World) (h1:Below w.heap.size w w1)=>zMe A l c w1 (hA.below h1) ol nl hl (htab.below h1);have ht:=fun(w1:World) (h1:Below w.heap.size w w1)=>zYe x A l c w1 (hA.below h1) ol nl hv hl (htab.below h1);rw[hv]at hf;obtain⟨t,hts⟩:∃t:ByteArray,t=⟨(Lib.decDigits x.natAbs).toArray⟩:=⟨_,rfl⟩
 have hsz:t.size=(Lib.decDigits x.natAbs).length:=by rw[hts];simp[ByteArray.size]
 rw[←hts]at hf;obtain⟨sg,hsg⟩:∃sg,sg=x.sign:=⟨_,rfl⟩
 rw[←hsg]at ht ⊢;have HF:=zC hf;have HT:=zC ht;by_cases hlim:x.natAbs<lim
 · have h1:t.size≤100:=by rw[hsz];exact(yAe _).2 hlim
   have HE:=zC (yCe hlim);clear hf ht hts hsz hv hsg hlim;go_in;go_wp2_with fail;refine(HF.out _ ((zI _ _).alloc (zR _) _)).mono ?_;rintro e w1 ⟨rfl,hb⟩;have hb1:Below w.heap.size w w1:=((zI _ _).alloc (zR _) _).trans (hb.mono yHn);have hc0:=hb.cell (p:=⟨w.heap.size,0,none⟩) yHn;have hc1:=hb.cell (p:=⟨w.heap.size,1,none⟩) yHn;clear hb;go_wp2_with fail;refine(HT.out _ hb1).mono ?_;rintro e w2 ⟨rfl,hb2⟩;go_wp2_with fail;go_ret2;exact⟨by rw[HE.out];rfl,hb1.trans (hb2.mono hb1.size)⟩
 · have h1:¬t.size≤100:=by rw[hsz];exact fun h=>hlim ((yAe _).1 h)
   have HE:=zC (yDe hlim);clear hf ht hts hsz hv hsg hlim;go_in;go_wp2_with fail;refine(HF.out _ ((zI _ _).alloc (zR _) _)).mono ?_;rintro e w1 ⟨rfl,hb⟩;have hb1:Below w.heap.size w w1:=((zI _ _).alloc (zR _) _).trans (hb.mono yHn);clear hb;go_wp2_with fail;go_ret2;exact⟨by rw[HE.out];rfl,hb1⟩
theorem yFe (x:Int):(-x).sign= -x.sign:=Int.sign_neg x
theorem yGe (x:Int) (A:Option Addr) (l:List Nat) (c:Nat) (w:World) (hA:Sz w A l) (ol:Ok l) (nl:yJa l) (hv:val l=x.natAbs):
 Calls Tryz.prog 219 #[.agg #[.int .i64 x.sign,.slice A l.length c]] w (zPe (-x) w):=by
 have h1: -1≤x.sign∧x.sign≤1:=by
  rcases zY1 x 0 with h|h|h
  · rw[zZ1 h];omega
  · subst h;simp
  · rw[yA1 h];omega
 have h2:=yFe x;obtain⟨sg,hsg⟩:∃sg,sg=x.sign:=⟨_,rfl⟩
 rw[←hsg]at h1 h2 ⊢;have H2:=zC h2;clear h2 hsg;go_in;go_wp2_with fail;have hb:Below w.heap.size w ((w.alloc (.cells #[.int .i64 sg,.slice A l.length c] 200)).alloc (.cells #[.int .i64 (-sg),.slice A l.length c] 200)):=((zI _ _).alloc (zR _) _).alloc yHn _;exact zE (v:=.agg #[.int .i64 (-sg),.slice A l.length c]) (by simp[results,Tryz.results219,go_sem]) rfl ⟨_,rfl,⟨A,l,c,by rw[H2.out],hA.below hb,ol,nl,by rw[hv];omega⟩,hb⟩
theorem yHe (x y:Int) (h:xKa x.sign y.sign≠0):xKa x.sign y.sign=xKa x y:=by
 unfold xKa at*;rcases zY1 x 0 with hx|hx|hx<;>rcases zY1 y 0 with hy|hy|hy
 all_goals first
  |rw[zZ1 hx]at*
  |rw[yA1 hx]at*
  |(rw[hx]at*;rw[xA2]at*)
 all_goals first
  |rw[zZ1 hy]at*
  |rw[yA1 hy]at*
  |(rw[hy]at*;rw[xA2]at*)
 all_goals first
  |(exfalso;exact h yCn)
  |(rw[yA yCn,yA yEn])
  |(rw[zY yCn,yA yCn,zY yEn,yA yEn])
end
section
open Go.RowKit
def yIe (l:List UInt8):List UInt8:=Lib.trimPrefix l [45]
def yJe (l:List UInt8):Bool:=l.all fun c=>decide (48≤c.toNat)&&decide (c.toNat≤57)
theorem yKe {l:List UInt8}:yJe l=true↔xFb l:=by simp[yJe,xFb]
def yLe (l:List UInt8):Bool:=decide (1≤(yIe l).length)&&decide ((yIe l).length≤100)&&yJe (yIe l)&&(decide ((yIe l).head?≠some 48)||decide (l=[48]))
theorem yMe (l:List UInt8):yIe (45::l)=l:=by simp[yIe,Lib.trimPrefix,Lib.hasPrefix,List.isPrefixOf]
theorem yNe {l:List UInt8} (h:l.head?≠some 45):yIe l=l:=by
 cases l with
 |nil=>rfl
 |cons c r=>
  have hc:c≠45:=by intro e;exact h (by rw[e];rfl)
  have:Lib.hasPrefix (c::r) [45]=false:=by
   simp only[Lib.hasPrefix,List.isPrefixOf];simp;exact fun e=>hc e.symm
  unfold yIe Lib.trimPrefix;rw[this];rfl
theorem yOe (n:Nat):(Lib.decDigits n).head?≠some 45:=by
 intro h;obtain⟨c,r,e⟩:∃c r,Lib.decDigits n=c::r:=by
  cases h2:Lib.decDigits n with
  |nil=>exact absurd h2 (xVb n)
  |cons c r=>exact⟨c,r,rfl⟩
 have hd:=xUb n;rw[e]at h hd;injection h with h
 have:=(xLb.1 hd).1;rw[h]at this;exact absurd this.1 yCn
theorem yPe {x:Int} (h:0≤x):Lib.itoa x=Lib.decDigits x.natAbs:=by
 unfold Lib.itoa;rw[zY yEn,show x.toNat=x.natAbs by omega]
theorem yQe {x:Int} (h:x<0):Lib.itoa x=45::Lib.decDigits x.natAbs:=by
 unfold Lib.itoa;rw[yA h]
theorem yRe (x:Int):yIe (Lib.itoa x)=Lib.decDigits x.natAbs:=by
 by_cases h:x<0
 · rw[yQe h,yMe]
 · rw[yPe yEn,yNe (yOe _)]
theorem ySe (x:Int):yLe (Lib.itoa x)=true↔x.natAbs<lim:=by
 unfold yLe;rw[yRe];have h1:=zBc x.natAbs;have h2:yJe (Lib.decDigits x.natAbs)=true:=yKe.2 (xUb _);have h3:(decide ((Lib.decDigits x.natAbs).head?≠some 48)||decide (Lib.itoa x=[48]))=true:=by
  by_cases h0:x=0
  · subst h0
    rw[yPe (Int.le_refl _),show(0:Int).natAbs=0 from rfl,xQb yEn];rfl
  · obtain⟨c,r,e,hc⟩:=xYb x.natAbs yEn
    rw[e];have:(c::r).head?≠some 48:=by
     intro h;injection h with h;rw[h]at hc;exact hc rfl
    rw[Bool.or_eq_true];exact .inl (yI0 this)
 rw[h2,h3];simp only[Bool.and_true,zG1,zI1];rw[yAe];exact⟨fun h=>h.2,fun h=>⟨h1,h⟩⟩
theorem yTe {l:List UInt8} (h:yLe l=true):∃x:Int,l=Lib.itoa x∧x.natAbs<lim:=by
 have h0:=h;unfold yLe at h;simp only[zG1,zI1,Bool.or_eq_true]at h;obtain⟨⟨⟨h1,h2⟩,h3⟩,h4⟩:=h;have h3:=yKe.1 h3;suffices hs:∃x:Int,l=Lib.itoa x by
  obtain⟨x,rfl⟩:=hs;exact⟨x,rfl,(ySe x).1 h0⟩
 by_cases hz:l=[48]
 · exact⟨0,by rw[hz,yPe (Int.le_refl _),show(0:Int).natAbs=0 from rfl,xQb yEn];rfl⟩
 · have h4:(yIe l).head?≠some 48:=by rcases h4 with h|h;exact h;exact absurd h hz
   obtain⟨c,r,e⟩:∃c r,yIe l=c::r:=by
    cases hf:yIe l with
    |nil=>rw[hf]at h1;simp at h1
    |cons c r=>exact⟨c,r,rfl⟩
   have hc:c.toNat≠48:=by
    intro hc;apply h4;rw[e];exact zH0 some (xXb hc)
   have hd:=xZb (yIe l) h3 (by rw[e];simp) (.inr ⟨c,r,e,hc⟩);have hpos:0<xEb (yIe l):=by
    rw[e]at h3 ⊢;rw[xIb];have:=(xLb.1 h3).1;have:0<(c.toNat-48)*10^r.length:=Nat.mul_pos yEn (yH1 yCn);omega
   by_cases hn:l.head?=some 45
   · obtain⟨r',rfl⟩:∃r',l=45::r':=by
      cases l with
      |nil=>cases hn
      |cons a r'=>injection hn with hn;subst hn;exact⟨r',rfl⟩
     rw[yMe]at hd hpos;exact⟨-(xEb r':Int),by rw[yQe yEn,show(-(xEb r':Int)).natAbs=xEb r' by omega,←hd]⟩
   · rw[yNe hn]at hd hpos
     exact⟨(xEb l:Int),by rw[yPe yEn,show((xEb l:Int)).natAbs=xEb l by omega,←hd]⟩
theorem yUe {x y:Int} (h:Lib.itoa x=Lib.itoa y):x=y:=by
 have h1:=zH0 yIe h;rw[yRe,yRe]at h1;have h2:=xWb h1;by_cases hx:x<0<;>by_cases hy:y<0
 · omega
 · rw[yQe hx,yPe yEn]at h
   exact absurd (zH0 List.head? h.symm) (yOe _)
 · rw[yQe hy,yPe yEn]at h
   exact absurd (zH0 List.head? h) (yOe _)
 · omega
end
section
open Go.RowKit
theorem yVe {f:ByteArray} {k:Nat} (hk:k<f.size) (h:xFb (f.data.toList.take k)) (hc:48≤(f[k]).toNat∧(f[k]).toNat≤57):xFb (f.data.toList.take (k+1)):=by
 rw[zEc f k hk];exact xKb.2 ⟨h,xLb.2 ⟨hc,xJb⟩⟩
theorem yWe {f:ByteArray} {k:Nat} (hk:k<f.size) (hc:¬(48≤(f[k]).toNat∧(f[k]).toNat≤57)):yJe f.data.toList=false:=by
 cases h:yJe f.data.toList
 · rfl
 · exact absurd (zGc f k (yKe.1 h) hk) hc
def yXe (b:Bool) (w:World) (e:Ending) (w':World):Prop:=e=.returned (.bool b)∧w=w'
theorem yYe {a b:Bool} (h:a=b):Ending.returned (.bool a)=.returned (.bool b):=by rw[h]
theorem yZe {f:ByteArray} (h:0<f.size):f.data.toList.head?=some f[0]:=by
 have hl:0<f.data.toList.length:=by simpa using h
 cases hd:f.data.toList with
 |nil=>rw[hd]at hl;simp at hl
 |cons a r=>
  have:f.data.toList[0]'hl=f[0]:=rfl;simp only[hd,List.getElem_cons_zero]at this;rw[←this];rfl
theorem xAe (s:ByteArray):s.toList=s.data.toList:=ByteArray.toList_eq s
theorem xBe (s:ByteArray) (w:World) (hs:s.size≤maxLen):
 Calls Tryz.prog 44 #[.string s] w (yXe (yLe s.data.toList) w):=by
 obtain⟨f,hf⟩:∃f:ByteArray,f=⟨(Lib.trimPrefix s.data.toList [45]).toArray⟩:=⟨_,rfl⟩
 have hF:yIe s.data.toList=f.data.toList:=by rw[hf];rfl
 have hfl:(f.data.toList).length=f.size:=by simp
 have hT:=Tryz.strings_TrimPrefix s ⟨#[45]⟩ w;rw[show Lib.trimPrefix s.data.toList (⟨#[45]⟩:ByteArray).data.toList=Lib.trimPrefix s.data.toList [45]from rfl,←hf]at hT;have hM:yLe s.data.toList=(decide (1≤f.size)&&decide (f.size≤100)&&yJe f.data.toList&&(decide (f.data.toList.head?≠some 48)||decide (s.data.toList=[48]))):=by
  unfold yLe;rw[hF,hfl]
 rw[hM];have HT:=zC hT;clear hM hT hF hf hfl;by_cases h0:f.size=0
 · have e0:((f.size:Int)==0)=true:=by rw[h0];rfl
   go_in;go_wp2_with fail;refine HT.out.mono ?_;rintro e w1 ⟨rfl,rfl⟩;go_wp2_with fail;go_ret;exact⟨yYe (by simp[h0]),rfl⟩
 · by_cases h1:100<f.size
   · have e0:((f.size:Int)==0)=false:=zT0.2 yEn
     go_in;go_wp2_with fail;refine HT.out.mono ?_;rintro e w1 ⟨rfl,rfl⟩;go_wp2_with fail;go_ret;exact⟨yYe (by simp[show¬f.size≤100 by omega]),rfl⟩
   · have e0:((f.size:Int)==0)=false:=zT0.2 yEn
     have e1:¬(100:Int)<f.size:=by omega
     go_in;go_wp2_with fail;refine HT.out.mono ?_;rintro e w1 ⟨rfl,rfl⟩;go_wp2_with fail;go_loop [17] (fun i=>∃k:Nat,k≤f.size∧i=.int .i64 k∧xFb (f.data.toList.take k)) (fun i=>f.size-(intOf i).toNat)
     case atStart=>exact⟨0,xJ _,rfl,xJb⟩
     case round=>
      obtain⟨k,hk,rfl,hI⟩:=hrel;by_cases hlt:k<f.size
      · by_cases hc:48≤(f[k]).toNat∧(f[k]).toNat≤57
        · have hst:=yVe hlt hI hc
          go_wp2_with fail;go_round
          case rel=>exact⟨k+1,by omega,by go_num,hst⟩
          case measure=>simp[intOf];omega
        · have hnd:=yWe hlt hc
          by_cases hc2:(f[k]).toNat<48
          · go_wp2_with fail
            go_ret;exact⟨yYe (by simp[hnd]),rfl⟩
          · have hc3:57<(f[k]).toNat:=by omega
            go_wp2_with fail;go_ret;exact⟨yYe (by simp[hnd]),rfl⟩
      · rw[yW zZn]at hI
        have hh:=yZe (f:=f) yEn;have hA:=yKe.2 hI;by_cases hc:f[0]=48
        · have hc':(((f[0]).toNat:Int) != 48)=false:=by rw[hc];rfl
          have HC:=zC hc;have HH:=zC hh;clear hc hh;go_wp2_with fail;go_ret;refine⟨yYe ?_,rfl⟩;rw[hA,HH.out,HC.out];show(s.toList==[48])=_;rw[xAe];simp[show 1≤f.size by omega,show f.size≤100 by omega]
          rw[Bool.eq_iff_iff,beq_iff_eq,zI1]
        · have hc':(((f[0]).toNat:Int) != 48)=true:=by
           rw[yM2];intro h;apply hc;exact xXb (by simpa using(by omega:(f[0]).toNat=48))
          go_wp2_with fail;go_ret;exact⟨yYe (by rw[hA,hh];simp[hc];omega),rfl⟩
end
section
open Go.RowKit
theorem xCe {x y:Int} (h:xKa x.sign y.sign=0):x.sign*xJa x.natAbs y.natAbs=xKa x y:=by
 have hs:x.sign=y.sign:=by
  unfold xKa at h;split at h
  · cases h
  · split at h
    · cases h
    · omega
 unfold xJa xKa;rcases zY1 x 0 with hx|hx|hx
 · have hy:y<0:=by rw[zZ1 hx]at hs;exact Int.neg_of_sign_eq_neg_one hs.symm
   rw[zZ1 hx];rcases yT2 x.natAbs y.natAbs with a|a|a
   · rw[yA a,zY yEn,yA yEn];rfl
   · rw[zY yEn,zY yEn,zY yEn,zY yEn];rfl
   · rw[zY yEn,yA a,yA yEn];rfl
 · subst hx
   have hy:y=0:=xB2 hs.symm;subst hy;rfl
 · have hy:0<y:=by rw[yA1 hx]at hs;exact Int.pos_of_sign_eq_one hs.symm
   rw[yA1 hx,zF2];rcases yT2 x.natAbs y.natAbs with a|a|a
   · rw[yA a,yA yEn]
   · rw[zY yEn,zY yEn,zY yEn,zY yEn]
   · rw[zY yEn,yA a,zY yEn,yA yEn]
theorem xDe (a b:Int): -1≤xKa a b∧xKa a b≤1:=by unfold xKa;split<;>(try split)<;>omega
theorem xEe {a b z:Int} (h:xKa a b=z) (w:World):Calls Tryz.prog 252 #[.int .i64 a,.int .i64 b] w fun e w'=>e=.returned (.int .i64 z)∧w=w':=by
 rw[←h];exact xVa a b w
def xFe (z:Int) (w:World) (e:Ending) (w':World):Prop:=e=.returned (.int .i64 z)∧Below w.heap.size w w'
theorem xGe {A B:Option Addr} {l m:List Nat} {c d:Nat} {w:World} (hA:Sz w A l) (hB:Sz w B m) (ol:Ok l) (om:Ok m) (nl:yJa l) (nm:yJa m) (hc:l.length≤maxLen) (hd:m.length≤maxLen) {z:Int} (hz:zCb l m=z) (n:Nat):
 Calls Tryz.prog 248 #[.slice A l.length c,.slice B m.length d] (w.drewN n) fun e w''=>e=.returned (.int .i64 z)∧∃k,w''=w.drewN k:=by
 subst hz;refine(zIb A B l m c d (w.drewN n) hA hB ol om nl nm hc hd).mono ?_;rintro e w' ⟨rfl,k,rfl⟩;exact⟨rfl,n+k,by rw[World.drewN_drewN]⟩
theorem xHe (x y:Int) (A B:Option Addr) (l m:List Nat) (c d:Nat) (w:World) (hA:Sz w A l) (hB:Sz w B m) (ol:Ok l) (om:Ok m) (nl:yJa l) (nm:yJa m) (hv:val l=x.natAbs) (hv':val m=y.natAbs) (hl:l.length≤1000) (hm:m.length≤1000):
 Calls Tryz.prog 232 #[.agg #[.int .i64 x.sign,.slice A l.length c],.agg #[.int .i64 y.sign,.slice B m.length d]] w (xFe (xKa x y) w):=by
 by_cases hz:xKa x.sign y.sign=0
 · have h1:=xEe hz
   have e1:=xCe hz;have hcv:zCb l m=xJa x.natAbs y.natAbs:=by unfold zCb;rw[hv,hv']
   have hq:=fun(w1:World) (h1:Below w.heap.size w w1)=>xGe (c:=c) (d:=d) (hA.below h1) (hB.below h1) ol om nl nm xXm xXm hcv;obtain⟨r,hr⟩:∃r,r=xKa x y:=⟨_,rfl⟩
   have hr1:=xDe x y;rw[←hr]at e1 hr1 ⊢;generalize xJa x.natAbs y.natAbs=cv at hq e1;generalize x.sign=sx at h1 e1 ⊢;generalize y.sign=sy at h1 ⊢;have hw:IntKind.i64.wrap (sx*cv)=r:=by rw[e1];exact xJ0 _ yEn
   have H1:=zC h1;have HQ:=zC hq;clear h1 hq hr e1 hz hcv hv hv';go_in;go_wp2_with fail;refine(H1.out _).mono ?_;rintro e w1 ⟨rfl,rfl⟩;go_wp2_with fail;go_quiet ((go_at_call 248;exact HQ.out _ (((zI _ _).alloc (zR _) _).alloc yHn _) _))
   go_wp2_with fail;go_ret;exact⟨rfl,Below.trans (((zI _ _).alloc (zR _) _).alloc yHn _) (Drawn.below ⟨_,rfl⟩)⟩
 · have e1:=yHe x y hz
   obtain⟨r,hr⟩:∃r,r=xKa x y:=⟨_,rfl⟩
   rw[←hr]at e1 ⊢;have h1:=xEe e1;have hr1:(r != 0)=true:=by rw[yM2,←e1];exact hz
   have H1:=zC h1;clear h1 hr e1 hz hv hv';go_in;go_wp2_with fail;refine(H1.out _).mono ?_;rintro e w1 ⟨rfl,rfl⟩;go_wp2_with fail;go_ret;exact⟨rfl,((zI _ _).alloc (zR _) _).alloc yHn _⟩
end
end Go.Proofs.YtcfbjdplhgdpfaaGreatDoor

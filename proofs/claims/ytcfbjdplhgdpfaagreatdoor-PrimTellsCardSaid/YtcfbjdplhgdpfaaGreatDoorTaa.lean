import Derived.Lib.ItoaNum
import Derived.Test.YtcfbjdplhgdpfaaGreatDoorProg
import Derived.WalkSpells
import Derived.WalkLawsBesides
import Derived.Lib.Hide
import Derived.BigQuiet
import Derived.Deep.OwnRows
set_option maxHeartbeats 1600000
namespace Go.Proofs.YtcfbjdplhgdpfaaGreatDoor
set_option linter.unusedVariables false
set_option linter.unusedSimpArgs false
theorem yIn {P:Prop}(h:P:=by rfl):P:=h
theorem yEn {P:Prop}(h:P:=by omega):P:=h
theorem yCn {P:Prop}(h:P:=by decide):P:=h
theorem yUm {P:Prop}(h:P:=by intro e;injection e with e;exact hne e):P:=h
abbrev yQ2:=@Nat.mul_zero
abbrev yP2:=@Nat.mul_le_mul
abbrev yO2:=@Go.World.rowIs.set
abbrev yN2:=@Go.World.rowIs.frozen
abbrev yM2:=@bne_iff_ne
abbrev yL2:=@Go.Calls.quiet_of_same
abbrev yB2:=@Nat.pow_succ
abbrev zV2:=@Nat.add_sub_cancel
abbrev zR2:=@Nat.mul_le_mul_left
abbrev zP2:=@Nat.mul_assoc
abbrev xR1:=@List.length_nil
abbrev xQ1:=@Go.World.cell?_of_block
abbrev xL1:=@List.drop_eq_getElem_cons
abbrev xI1:=@Nat.mul_add
abbrev xH1:=@Nat.div_add_mod
abbrev xG1:=@List.mem_of_mem_drop
abbrev xF1:=@List.mem_append
abbrev xD1:=@Nat.mod_lt
abbrev yR1:=@List.eq_nil_of_length_eq_zero
abbrev yP1:=@Nat.mul_comm
abbrev yN1:=@List.take_append_drop
abbrev yM1:=@Nat.pow_le_pow_right
abbrev yF1:=@Nat.pow_add
abbrev yC1:=@List.length_cons
abbrev zY1:=@Int.lt_trichotomy
abbrev zW1:=@List.cons_append
abbrev xY0:=@List.mem_map
abbrev xC0:=@Nat.add_assoc
abbrev yW0:=@List.getElem?_eq_none
abbrev yS0:=@Nat.mul_one
abbrev yE0:=@List.take_succ_eq_append_getElem
abbrev zX0:=@Go.RowKit.Below.heap_setCell
abbrev zU0:=@List.mem_range
abbrev zP0:=@Nat.zero_add
abbrev zH0:=@congrArg
abbrev zC0:=@List.length_append
abbrev xR:=@Nat.min_eq_left
abbrev xP:=@List.length_take
abbrev xN:=@Nat.le_trans
abbrev xJ:=@Nat.zero_le
abbrev xH:=@List.getElem_mem
abbrev xD:=@List.mem_of_mem_take
abbrev xB:=@Nat.add_zero
abbrev yW:=@List.take_of_length_le
abbrev yM:=@List.getElem?_eq_getElem
abbrev yJ:=@List.getD_eq_getElem?_getD
abbrev yF:=@Nat.lt_of_lt_of_le
abbrev yA:=@if_pos
abbrev zY:=@if_neg
abbrev zR:=@Nat.le_refl
abbrev zO:=@List.range_succ
abbrev zC:=@Go.Lib.hid
section
def val:List Nat→Nat
 |[]=>0
 |a::r=>a+1000000000*val r
def Ok (l:List Nat):Prop:=∀p∈l,p<1000000000
def trim:List Nat→List Nat
 |[]=>[]
 |a::r=>if trim r=[]∧a=0 then[]else a::trim r
def yJa (l:List Nat):Prop:=trim l=l
theorem yKa:val []=0:=rfl
theorem yLa (a:Nat) (r:List Nat):val (a::r)=a+1000000000*val r:=rfl
theorem yMa (l m:List Nat):val (l++m)=val l+1000000000^l.length*val m:=by
 induction l with
 |nil=>simp[val]
 |cons a r ih=>simp only[zW1,val,ih,yC1,yB2];rw[xI1,←zP2,yP1 (1000000000^r.length) 1000000000];omega
theorem yNa (l:List Nat) (a:Nat):val (l++[a])=val l+1000000000^l.length*a:=by rw[yMa];simp[val]
theorem yOa {a:Nat} {r:List Nat}:Ok (a::r)↔a<1000000000∧Ok r:=by simp[Ok]
theorem yPa {l m:List Nat}:Ok (l++m)↔Ok l∧Ok m:=by
 simp only[Ok,xF1];exact⟨fun h=>⟨fun p hp=>h p (.inl hp),fun p hp=>h p (.inr hp)⟩,fun h p hp=>hp.elim (h.1 p) (h.2 p)⟩
theorem yQa:Ok []:=by simp[Ok]
theorem yRa {l:List Nat} (h:Ok l) (k:Nat):Ok (l.take k):=fun p hp=>h p (xD hp)
theorem ySa {l:List Nat} (h:Ok l) (k:Nat):Ok (l.drop k):=fun p hp=>h p (xG1 hp)
theorem yTa {l:List Nat} (h:Ok l) {i:Nat} (hi:i<l.length):l[i]<1000000000:=h _ (xH hi)
theorem yUa {l:List Nat} (h:Ok l) (i:Nat):l.getD i 0<1000000000:=by
 by_cases hi:i<l.length
 · rw[yJ,yM hi];exact h _ (xH hi)
 · rw[yJ,yW0 yEn];decide
theorem yVa {l:List Nat} (h:Ok l):val l<1000000000^l.length:=by
 induction l with
 |nil=>simp[val]
 |cons a r ih=>
  obtain⟨h1,h2⟩:=yOa.1 h;have:=ih h2;rw[yLa,yC1,yB2];omega
theorem yWa (l:List Nat):trim (l++[0])=trim l:=by
 induction l with
 |nil=>simp[trim]
 |cons a r ih=>simp only[zW1,trim,ih]
theorem yXa {l:List Nat} {a:Nat} (h:a≠0):trim (l++[a])=l++[a]:=by
 induction l with
 |nil=>simp[trim,h]
 |cons b r ih=>simp[trim,ih]
theorem yYa (l:List Nat):val (trim l)=val l:=by
 induction l with
 |nil=>rfl
 |cons a r ih=>
  simp only[trim];split
  · rename_i h;rw[h.1]at ih;simp[val]at ih ⊢;omega
  · simp[val,ih]
theorem yZa (l:List Nat):(trim l).length≤l.length:=by
 induction l with
 |nil=>simp[trim]
 |cons a r ih=>simp only[trim];split<;>simp<;>omega
theorem xAa (l:List Nat):trim l=l.take (trim l).length:=by
 induction l with
 |nil=>simp[trim]
 |cons a r ih=>
  simp only[trim];split
  · simp
  · rw[yC1,List.take_succ_cons,←ih]
theorem xBa (l:List Nat):trim (trim l)=trim l:=by
 induction l with
 |nil=>rfl
 |cons a r ih=>
  simp only[trim];split
  · rfl
  · rename_i h;simp only[trim,ih];rw[zY h]
theorem xCa (l:List Nat):yJa (trim l):=xBa l
theorem xDa {l:List Nat} (h:Ok l):Ok (trim l):=by rw[xAa];exact yRa h _
theorem xEa:yJa []:=rfl
theorem xFa {l:List Nat} (h:yJa l) (hne:l≠[]):∃m a,l=m++[a]∧a≠0:=by
 refine⟨l.dropLast,l.getLast hne,(List.dropLast_concat_getLast hne).symm,fun h0=> ?_⟩;have e:=(List.dropLast_concat_getLast hne).symm;rw[h0]at e;unfold yJa at h;rw[e,yWa]at h;have:=yZa l.dropLast;have l2:=zH0 List.length h;simp at l2 this
 omega
theorem xGa {l:List Nat} (h:yJa l) (hne:l≠[]):1000000000^(l.length-1)≤val l:=by
 obtain⟨m,a,rfl,ha⟩:=xFa h hne;rw[yNa,zC0];simp only[yC1,xR1,zP0,zV2];have:1000000000^m.length*1≤1000000000^m.length*a:=zR2 _ yEn;omega
theorem xHa {l:List Nat} (h:yJa l):val l=0↔l=[]:=by
 constructor
 · intro h0
   by_cases hne:l=[]
   · exact hne
   · have:=xGa h hne
     have:1≤1000000000^(l.length-1):=Nat.one_le_pow _ _ yCn;omega
 · rintro rfl;rfl
theorem xIa {l m:List Nat} (ol:Ok l) (nm:yJa m) (h:l.length<m.length):val l<val m:=by
 have hne:m≠[]:=by intro e;simp[e]at h
 have h1:=xGa nm hne;have h2:=yVa ol;have h3:1000000000^l.length≤1000000000^(m.length-1):=yM1 yCn yEn;omega
def xJa (a b:Nat):Int:=if a<b then-1 else if b<a then 1 else 0
def xKa (a b:Int):Int:=if a<b then-1 else if b<a then 1 else 0
theorem xLa (l:List Nat) (k:Nat) (h:k≤l.length):val l=val (l.take k)+1000000000^k*val (l.drop k):=by
 conv=>lhs;rw[←yN1 k l,yMa,xP,xR h]
theorem xMa {l m:List Nat} (ol:Ok l) (om:Ok m) (hlen:l.length=m.length) {k:Nat} (hk:k<l.length) (he:l.drop (k+1)=m.drop (k+1)) (hlt:l[k]<m[k]'(hlen▸hk)):val l<val m:=by
 have hk':k<m.length:=hlen▸hk;rw[xLa l k yEn,xLa m k yEn,xL1 hk,xL1 hk',he,yLa,yLa];have h1:=yVa (yRa ol k);rw[xP,xR yEn]at h1;have h2:1000000000^k*(l[k]+1+1000000000*val (m.drop (k+1)))≤1000000000^k*(m[k]+1000000000*val (m.drop (k+1))):=zR2 _ yEn;rw[show l[k]+1+1000000000*val (m.drop (k+1))=(l[k]+1000000000*val (m.drop (k+1)))+1 from by omega,xI1,yS0]at h2;omega
end
section
open Go.RowKit
def Sz (w:World) (A:Option Addr) (l:List Nat):Prop:=
 (A=none∧l=[])∨∃b o,A=some ⟨b,o,none⟩∧b<w.heap.size∧∀i (h:i<l.length),w.cell? ⟨b,o+i,none⟩=some (.int .u32 l[i])
theorem Sz.at_ {w:World} {A:Option Addr} {l:List Nat} (h:Sz w A l) (hne:l≠[]):
 ∃b o,A=some ⟨b,o,none⟩∧b<w.heap.size∧∀i (h:i<l.length),w.cell? ⟨b,o+i,none⟩=some (.int .u32 l[i]):=by
 rcases h with⟨_,e⟩|h
 · exact absurd e hne
 · exact h
theorem Sz.below {w w':World} {A:Option Addr} {l:List Nat} (h:Sz w A l) (hb:Below w.heap.size w w'):Sz w' A l:=by
 rcases h with h|⟨b,o,e,hlt,hc⟩
 · exact .inl h
 · exact .inr ⟨b,o,e,yF hlt hb.size,fun i hi=>(hb.cell (p:=⟨b,o+i,none⟩) hlt).trans (hc i hi)⟩
theorem xNa {A:Option Addr} {n m c:Nat} (h:n=m):Ending.returned (.slice A n c)=.returned (.slice A m c):=by rw[h]
theorem xOa {k:IntKind} {a b:Int} (h:a=b):Ending.returned (.int k a)=.returned (.int k b):=by rw[h]
theorem xPa {a b:ByteArray} (h:a=b):Ending.returned (.string a)=.returned (.string b):=by rw[h]
theorem xQa {l:List Nat} {m:Nat} (h:m<l.length) (h0:l[m]=0):trim (l.take (m+1))=trim (l.take m):=by
 rw[yE0 h,h0,yWa]
theorem xRa {l:List Nat} {m:Nat} (h:m<l.length) (h0:l[m]≠0):(trim (l.take (m+1))).length=m+1:=by
 rw[yE0 h,yXa h0];simp;omega
theorem xSa (A:Option Addr) (l:List Nat) (c:Nat) (w:World) (hs:Sz w A l) (hc:l.length≤c) (hm:c≤maxLen):
 Calls Tryz.prog 261 #[.slice A l.length c] w fun e w'=>e=.returned (.slice A (trim l).length c)∧w=w':=by
 unfold maxLen at hm;rcases hs with⟨rfl,rfl⟩|⟨b,o,rfl,hlt,hcell⟩
 · go_in
   go_wp2
   go_loop [0] (fun v=>v=.slice none 0 c) (fun _=>0)
   case atStart=>rfl
   case round=>
    subst hrel;go_wp2
    go_ret;exact⟨rfl,rfl⟩
 · go_in
   go_wp2
   go_loop [0] (fun v=>∃m:Nat,m≤l.length∧v=.slice (some ⟨b,o,none⟩) m c∧trim (l.take m)=trim l) (fun v=>match v with| .slice _ n _=>n|_=>0)
   case atStart=>exact⟨l.length,zR _,rfl,by simp⟩
   case round=>
    obtain⟨m,hml,rfl,hE⟩:=hrel;have HE:=zC hE;clear hE;rcases m with _|m
    · go_wp2
      go_ret;have h1:=HE.out;simp[trim]at h1
      exact⟨xNa (by rw[h1];rfl),rfl⟩
    · have hcm:=hcell m yEn
      by_cases h0:l[m]=0
      · rw[h0]at hcm
        go_wp2
        go_round
        case rel=>exact⟨m,by omega,rfl,by rw[←xQa yEn h0];exact HE.out⟩
        case measure=>simp
      · have hne:(((l[m]:Nat):Int)==0)=false:=by simp;omega
        go_wp2
        go_ret;exact⟨xNa (by rw[←HE.out,xRa yEn h0]),rfl⟩
end
section
open Go.RowKit
theorem xTa (a b:Int) (w:World):Calls Tryz.prog 266 #[.int .u32 a,.int .u32 b] w fun e w'=>e=.returned (.int .i64 (xKa a b))∧w=w':=by
 unfold xKa;rcases zY1 a b with h|rfl|h
 · rw[yA h]
   go_in;go_wp2
   go_ret;exact⟨rfl,rfl⟩
 · rw[zY yEn,zY yEn]
   go_in;go_wp2
   go_ret;exact⟨rfl,rfl⟩
 · rw[zY yEn,yA h]
   have h':¬a<b:=by omega
   go_in;go_wp2
   go_ret;exact⟨rfl,rfl⟩
theorem xUa (a b:Int) (w:World):Calls Tryz.prog 265 #[.int .i64 a,.int .i64 b] w fun e w'=>e=.returned (.int .i64 (xKa a b))∧w=w':=by
 unfold xKa;rcases zY1 a b with h|rfl|h
 · rw[yA h]
   go_in;go_wp2
   go_ret;exact⟨rfl,rfl⟩
 · rw[zY yEn,zY yEn]
   go_in;go_wp2
   go_ret;exact⟨rfl,rfl⟩
 · rw[zY yEn,yA h]
   have h':¬a<b:=by omega
   go_in;go_wp2
   go_ret;exact⟨rfl,rfl⟩
theorem xVa (a b:Int) (w:World):Calls Tryz.prog 252 #[.int .i64 a,.int .i64 b] w fun e w'=>e=.returned (.int .i64 (xKa a b))∧w=w':=by
 unfold xKa;rcases zY1 a b with h|rfl|h
 · rw[yA h]
   go_in;go_wp2
   go_ret;exact⟨rfl,rfl⟩
 · rw[zY yEn,zY yEn]
   go_in;go_wp2
   go_ret;exact⟨rfl,rfl⟩
 · rw[zY yEn,yA h]
   have h':¬a<b:=by omega
   go_in;go_wp2
   go_ret;exact⟨rfl,rfl⟩
theorem xWa (a b:Nat):xKa (a:Int) (b:Int)=xJa a b:=by unfold xKa xJa;simp only[Int.ofNat_lt]
theorem xXa {a b:Nat}:xJa a b=0↔a=b:=by unfold xJa;split<;>(try split)<;>omega
theorem xYa {a b:Nat} (h:a<b):xJa a b= -1:=by unfold xJa;rw[yA h]
theorem xZa {a b:Nat} (h:b<a):xJa a b=1:=by unfold xJa;rw[zY yEn,yA h]
theorem zAb (a:Nat):xJa a a=0:=xXa.2 rfl
theorem zBb {l m:List Nat} (ol:Ok l) (om:Ok m) (hlen:l.length=m.length) {k:Nat} (hk:k<l.length) (hk':k<m.length) (he:l.drop (k+1)=m.drop (k+1)) (hne:l[k]≠m[k]):
 xJa l[k] m[k]=xJa (val l) (val m):=by
 rcases Nat.lt_or_gt_of_ne hne with h|h
 · rw[xYa h,xYa (xMa ol om hlen hk he h)]
 · rw[xZa h,xZa (xMa om ol hlen.symm hk' he.symm h)]
def zCb (l m:List Nat):Int:=xJa (val l) (val m)
theorem zDb {l m:List Nat} (ol:Ok l) (om:Ok m) (nl:yJa l) (nm:yJa m) (h:l.length≠m.length):xJa l.length m.length=zCb l m:=by
 unfold zCb;rcases Nat.lt_or_gt_of_ne h with h|h
 · rw[xYa h,xYa (xIa ol nm h)]
 · rw[xZa h,xZa (xIa om nl h)]
def zEb (l m:List Nat) (k:Nat):Prop:=l.drop k=m.drop k
theorem zFb {l m:List Nat} {k:Nat} (hk:k<l.length) (hk':k<m.length) (h:zEb l m (k+1)) (he:l[k]=m[k]):zEb l m k:=by
 unfold zEb at*;rw[xL1 hk,xL1 hk',h,he]
def Drawn (w w':World):Prop:=∃n,w'=w.drewN n
theorem Drawn.refl (w:World):Drawn w w:=⟨0,rfl⟩
theorem Drawn.cell {w w':World} (h:Drawn w w') (a:Addr):w'.cell? a=w.cell? a:=by obtain⟨n,rfl⟩:=h;rfl
theorem Drawn.more {w w':World} (h:Drawn w w') (n:Nat):Drawn w (w'.drewN n):=by
 obtain⟨m,rfl⟩:=h;exact⟨m+n,by rw[World.drewN_drewN]⟩
theorem Drawn.heap {w w':World} (h:Drawn w w'):w'.heap=w.heap:=by obtain⟨n,rfl⟩:=h;rfl
theorem zGb {a b z:Int} (h:xKa a b=z) (w:World):Calls Tryz.prog 265 #[.int .i64 a,.int .i64 b] w fun e w'=>e=.returned (.int .i64 z)∧w=w':=by
 rw[←h];exact xUa a b w
theorem zHb {a b z:Int} (h:xKa a b=z) (w:World):Calls Tryz.prog 266 #[.int .u32 a,.int .u32 b] w fun e w'=>e=.returned (.int .i64 z)∧w'=w:=by
 rw[←h];exact(xTa a b w).mono fun _ _ h=>⟨h.1,h.2.symm⟩
theorem zIb (A B:Option Addr) (l m:List Nat) (c d:Nat) (w:World) (hA:Sz w A l) (hB:Sz w B m) (ol:Ok l) (om:Ok m) (nl:yJa l) (nm:yJa m) (hc:l.length≤maxLen) (hd:m.length≤maxLen):
 Calls Tryz.prog 248 #[.slice A l.length c,.slice B m.length d] w fun e w'=>e=.returned (.int .i64 (zCb l m))∧Drawn w w':=by
 unfold maxLen at hc hd;by_cases hlen:l.length=m.length
 · have hz:xKa (l.length:Int) (m.length:Int)=0:=by rw[xWa,xXa.2 hlen]
   by_cases hne:l=[]
   · subst hne
     have hm0:m=[]:=yR1 hlen.symm;subst hm0;have H1:=zC (zGb hz w);clear hz;go_in;go_wp2_with fail;refine H1.out.mono ?_;rintro e w1 ⟨rfl,rfl⟩;go_wp2_with fail;go_loop [6] (fun i=>i=.int .i64 (-1)) (fun _=>0)
     case atStart=>rfl
     case round=>
      subst hrel;go_wp2_with fail;go_ret;exact⟨rfl,Drawn.refl _⟩
   · obtain⟨b,o,rfl,hlt,hcell⟩:=hA.at_ hne
     obtain⟨b',o',rfl,hlt',hcell'⟩:=hB.at_ (by rintro rfl;exact hne (yR1 hlen));have H1:=zC (zGb hz w);have HL:=zC hlen;have h1:1≤l.length:=by cases l with
      |nil=>exact absurd rfl hne
      |cons a r=>simp
     have h2:l.length≤m.length∧m.length≤l.length:=by omega
     clear hz hlen hA hB;go_in;go_wp2_with fail;refine H1.out.mono ?_;rintro e w1 ⟨rfl,rfl⟩;go_wp2_with fail;go_loopw [6] (fun i wr=>∃k:Nat,k≤l.length∧i=.int .i64 ((k:Int)-1)∧zEb l m k∧Drawn w wr) (fun i _=>(intOf i+1).toNat)
     case atStart=>exact⟨l.length,zR _,rfl,by unfold zEb;rw[List.drop_length,HL.out,List.drop_length],Drawn.refl _⟩
     case round=>
      obtain⟨k,hk,rfl,hS,hW⟩:=hrel;rcases k with _|k
      · go_wp2_with fail
        go_ret;have hv:l=m:=by simpa[zEb]using hS
        exact⟨xOa (by unfold zCb;rw[hv,zAb]),hW⟩
      · have hcl:=(hW.cell ⟨b,o+k,none⟩).trans (hcell k yEn)
        have hcm:=(hW.cell ⟨b',o'+k,none⟩).trans (hcell' k yEn);have e1:((k+1:Nat):Int)-1=(k:Int):=by omega
        rw[e1];by_cases he:l[k]=m[k]
        · have hq:=zHb (show xKa (l[k]:Int) (m[k]:Int)=0 by rw[xWa,xXa.2 he])
          have HQ:=zC hq;have HE:=zC he;clear hq he;go_wp2_with fail;go_quiet ((go_at_call 266;exact yL2 (HQ.out _)))
          go_wp2_with fail;go_roundw
          case rel=>exact⟨k,by omega,rfl,zFb yEn yEn hS HE.out,hW.more _⟩
          case measure=>simp[intOf]
        · obtain⟨z,hzz⟩:∃z,z=zCb l m:=⟨_,rfl⟩
          have hv:xJa l[k] m[k]=z:=by rw[hzz];exact zBb ol om HL.out yEn yEn hS he
          have hz1:(z != 0)=true:=by rw[yM2,←hv];exact fun h=>he (xXa.1 h)
          have hq:=zHb (show xKa (l[k]:Int) (m[k]:Int)=z by rw[xWa,hv]);have HQ:=zC hq;have HZ:=zC hzz;clear hq hv hzz he;go_wp2_with fail;go_quiet ((go_at_call 266;exact yL2 (HQ.out _)))
          go_wp2_with fail;go_ret;exact⟨xOa HZ.out,hW.more _⟩
 · have hz:=zDb ol om nl nm hlen
   have hn:xKa (l.length:Int) (m.length:Int)≠0:=by rw[xWa];intro h;exact hlen (xXa.1 h)
   rw[←xWa]at hz;rw[hz]at hn;have hn':(zCb l m != 0)=true:=by rw[yM2];exact hn
   have H1:=zC (zGb hz w);clear hz hn;go_in;go_wp2_with fail;refine H1.out.mono ?_;rintro e w1 ⟨rfl,rfl⟩;go_wp2_with fail;go_ret;exact⟨rfl,Drawn.refl _⟩
end
section
open Go.RowKit
def Rw (w:World) (g N:Nat) (F:Nat→Nat):Prop:=w.rowIs g 165 N (fun j=>Value.int .u32 (F j:Nat))
def upd (F:Nat→Nat) (i x:Nat):Nat→Nat:=fun j=>if j=i then x else F j
def vf (F:Nat→Nat) (o:Nat):Nat→Nat
 | 0=>0
 |n+1=>vf F o n+1000000000^n*F (o+n)
def lst (F:Nat→Nat) (o n:Nat):List Nat:=(List.range n).map fun i=>F (o+i)
theorem zJb (F:Nat→Nat) (o n:Nat):(lst F o n).length=n:=by simp[lst]
theorem zKb (F:Nat→Nat) (o n i:Nat) (h:i<(lst F o n).length):(lst F o n)[i]=F (o+i):=by simp[lst]
theorem zLb (F:Nat→Nat) (o n:Nat):lst F o (n+1)=lst F o n++[F (o+n)]:=by simp[lst,zO]
theorem zMb (F:Nat→Nat) (o n:Nat):val (lst F o n)=vf F o n:=by
 induction n with
 |zero=>rfl
 |succ n ih=>rw[zLb,yNa,ih,zJb];rfl
theorem zNb {F G:Nat→Nat} {o n:Nat} (h:∀j,o≤j→j<o+n→F j=G j):vf F o n=vf G o n:=by
 induction n with
 |zero=>rfl
 |succ n ih=>simp only[vf];rw[ih (fun j h1 h2=>h j h1 yEn),h (o+n) yEn yEn]
theorem zOb {F:Nat→Nat} {o n:Nat} (h:∀j,o≤j→j<o+n→F j<1000000000):Ok (lst F o n):=by
 intro p hp;simp only[lst,xY0,zU0]at hp;obtain⟨i,hi,rfl⟩:=hp;exact h _ yEn yEn
theorem zPb {F:Nat→Nat} {o n i x:Nat} (h:i<o∨o+n≤i):vf (upd F i x) o n=vf F o n:=
 zNb fun j h1 h2=>by unfold upd;rw[zY yEn]
theorem zQb {F:Nat→Nat} {o n:Nat} (h:∀j,o≤j→j<o+n→F j<1000000000):vf F o n<1000000000^n:=by
 have:=yVa (zOb h);rwa [zMb,zJb]at this
theorem zRb (F:Nat→Nat) (o k n:Nat):vf F o (k+n)=vf F o k+1000000000^k*vf F (o+k) n:=by
 induction n with
 |zero=>simp[vf]
 |succ n ih=>
  show vf F o (k+n)+1000000000^(k+n)*F (o+(k+n))=_;rw[ih];show _=vf F o k+1000000000^k*(vf F (o+k) n+1000000000^n*F (o+k+n));rw[xI1,yF1,zP2 (1000000000^k) (1000000000^n),xC0 o k n];omega
theorem zSb (m:List Nat) (k:Nat):val (m.take (k+1))=val (m.take k)+1000000000^k*m.getD k 0:=by
 by_cases h:k<m.length
 · rw[yE0 h,yNa,xP,xR yEn,yJ,yM h];rfl
 · rw[yW yEn,yW yEn,yJ,yW0 yEn];simp
theorem Rw.cell {w:World} {g N:Nat} {F:Nat→Nat} (h:Rw w g N F) {i:Nat} (hi:i<N):w.cell? ⟨g,i,none⟩=some (.int .u32 (F i:Nat)):=World.rowIs.cell h hi
theorem Rw.frozen {w:World} {g N:Nat} {F:Nat→Nat} (h:Rw w g N F) (i:Nat):w.frozen? ⟨g,i,none⟩=false:=yN2 h i
theorem Rw.lt {w:World} {g N:Nat} {F:Nat→Nat} (h:Rw w g N F):g<w.heap.size:=World.rowIs.lt h
theorem Rw.set {w:World} {g N:Nat} {F:Nat→Nat} (h:Rw w g N F) (i x:Nat) {v:Int} (hv:v=(x:Int)):Rw (w.setCell ⟨g,i,none⟩ (.int .u32 v)) g N (upd F i x):=by
 subst hv;refine(yO2 h i _).congr fun j _=> ?_;unfold upd;split<;>rfl
theorem Rw.congr {w:World} {g N:Nat} {F G:Nat→Nat} (h:Rw w g N F) (e:∀j,j<N→F j=G j):Rw w g N G:=World.rowIs.congr h fun j hj=>by rw[e j hj]
theorem Rw.of_block {w w':World} {g N:Nat} {F:Nat→Nat} (h:Rw w g N F) (e:w'.heap[g]?=w.heap[g]?):Rw w' g N F:=World.rowIs.of_block h e
theorem Rw.drewN {w:World} {g N:Nat} {F:Nat→Nat} (h:Rw w g N F) (n:Nat):Rw (w.drewN n) g N F:=h
theorem Rw.sz {w:World} {g N:Nat} {F:Nat→Nat} (h:Rw w g N F) (o n:Nat) (hn:o+n≤N):Sz w (some ⟨g,o,none⟩) (lst F o n):=
 .inr ⟨g,o,rfl,h.lt,fun i hi=>by rw[zKb];rw[zJb]at hi;exact h.cell yEn⟩
def Only (g:Nat) (w w':World):Prop:=w.grownBy w' (some g)
theorem Only.refl (g:Nat) (w:World):Only g w w:=World.grownBy.refl w _
theorem Only.trans {g:Nat} {a b c:World} (h:Only g a b) (k:Only g b c):Only g a c:=
 ⟨k.os.trans h.os,k.tape.trans h.tape,k.output.trans h.output,xN h.size k.size,fun i hi hne=>(k.block i (yF hi h.size) hne).trans (h.block i hi hne)⟩
theorem Only.setCell {g:Nat} {a w:World} (h:Only g a w) (i:Nat) (u:Value):Only g a (w.setCell ⟨g,i,none⟩ u):=
 ⟨h.os,h.tape,h.output,by simpa[World.setCell]using h.size,fun i hi hne=>(zX0 w _ u i (by rintro rfl;exact hne rfl)).trans (h.block i hi hne)⟩
theorem Only.drewN {g:Nat} {a w:World} (h:Only g a w) (n:Nat):Only g a (w.drewN n):=⟨h.os,h.tape,h.output,h.size,h.block⟩
theorem Only.to_below {g B:Nat} {a w:World} (h:Only g a w) (hg:B≤g) (hB:B≤a.heap.size):Below B a w:=
 ⟨h.os,h.tape,h.output,h.size,fun i hi=>h.block i yEn (by intro e;injection e with e;omega)⟩
def Off (A:Option Addr) (g:Nat):Prop:=∀a,A=some a→a.block≠g
theorem Sz.only {w w':World} {A:Option Addr} {l:List Nat} {g:Nat} (h:Sz w A l) (ho:Off A g) (hb:Only g w w'):Sz w' A l:=by
 rcases h with h|⟨b,o,e,hlt,hc⟩
 · exact .inl h
 · have hne:b≠g:=ho _ e
   exact .inr ⟨b,o,e,yF hlt hb.size,fun i hi=>(xQ1 (a:=⟨b,o+i,none⟩) (hb.block b hlt yUm)).trans (hc i hi)⟩
theorem Sz.drawn {w w':World} {A:Option Addr} {l:List Nat} (h:Sz w A l) (hd:Drawn w w'):Sz w' A l:=by obtain⟨n,rfl⟩:=hd;exact h
theorem Sz.off {w:World} {A:Option Addr} {l:List Nat} (h:Sz w A l) {g:Nat} (hg:w.heap.size≤g):Off A g:=by
 rcases h with⟨rfl,_⟩|⟨b,o,rfl,hlt,_⟩
 · intro a e;cases e
 · intro a e;injection e with e;subst e;show b≠g;omega
structure RaiseInv (F:Nat→Nat) (m:List Nat) (o k c:Nat) (F':Nat→Nat):Prop where
 le:c≤1
 out:∀j,j<o∨o+k≤j→F' j=F j
 ok:∀j,o≤j→j<o+k→F' j<1000000000
 eq:vf F' o k+1000000000^k*c=vf F o k+val (m.take k)
theorem RaiseInv.start (F:Nat→Nat) (m:List Nat) (o:Nat):RaiseInv F m o 0 0 F:=⟨by omega,fun _ _=>rfl,fun _ h1 h2=>by omega,by simp[vf,val]⟩
theorem RaiseInv.step {F:Nat→Nat} {m:List Nat} {o k c:Nat} {F':Nat→Nat} (h:RaiseInv F m o k c F') (hF:F (o+k)<1000000000) (hm:Ok m) {x:Nat} (hx:x=c+F (o+k)+m.getD k 0):
 RaiseInv F m o (k+1) (x/1000000000) (upd F' (o+k) (x%1000000000)):=by
 have h1:=h.le;have h2:=yUa hm k;refine⟨by omega,fun j hj=> ?_,fun j h3 h4=> ?_,?_⟩
 · unfold upd;rw[zY yEn];exact h.out j yEn
 · unfold upd;split
   · exact xD1 _ yCn
   · exact h.ok j h3 yEn
 · simp only[vf]
   rw[zPb (.inr yEn),zSb];have h3:=h.eq;have h4:upd F' (o+k) (x%1000000000) (o+k)=x%1000000000:=by unfold upd;rw[yA rfl]
   rw[h4,yB2];have h5:=xH1 x 1000000000;have h6:1000000000^k*(x%1000000000)+1000000000^k*1000000000*(x/1000000000)=1000000000^k*x:=by
    rw[zP2,←xI1];congr 1;omega
   have h7:1000000000^k*x=1000000000^k*c+1000000000^k*F (o+k)+1000000000^k*m.getD k 0:=by rw[hx,xI1,xI1]
   omega
theorem zTb (g o n ca N:Nat) (F:Nat→Nat) (B:Option Addr) (m:List Nat) (cb:Nat) (w:World) (hR:Rw w g N F) (hF:∀j,o≤j→j<o+n→F j<1000000000) (hn:o+n≤N) (hN:N≤maxLen)
 (hB:Sz w B m) (hO:Off B g) (om:Ok m) (hm:m.length≤maxLen):
 Calls Tryz.prog 264 #[.slice (some ⟨g,o,none⟩) n ca,.slice B m.length cb] w fun e w'=>∃c F',e=.returned (.bool (decide (0<c)))∧RaiseInv F m o n c F'∧Rw w' g N F'∧Only g w w':=by
 unfold maxLen at hN hm;go_in;go_wp2_with fail;go_loopw [5,9] (fun c i wr=>∃(k cN:Nat) (F':Nat→Nat),k≤n∧i=.int .i64 k∧c=.int .u32 cN∧RaiseInv F m o k cN F'∧Rw wr g N F'∧Only g w wr) (fun _ i _=>n-(intOf i).toNat)
 case atStart=>exact⟨0,0,F,xJ _,rfl,rfl,RaiseInv.start _ _ _,hR,Only.refl _ _⟩
 case round=>
  obtain⟨k,cN,F',hk,rfl,rfl,hI,hR',hW⟩:=hrel;by_cases hlt:k<n
  · have c1:=hI.le
    have hFk:=hF (o+k) yEn yEn;have e0:F' (o+k)=F (o+k):=hI.out _ yEn;have hcell:=hR'.cell (i:=o+k) yEn;have hfz:=hR'.frozen (o+k);rw[e0]at hcell;by_cases hmk:k<m.length
    · obtain⟨b,o',rfl,hlt',hcell'⟩:=(hB.only hO hW).at_ (by rintro rfl;simp at hmk)
      have hcm:=hcell' k hmk;have hmk2:=yTa om hmk;have hst:=hI.step hFk om (x:=cN+F (o+k)+m[k]) (by rw[yJ,yM hmk];rfl);clear e0 hF hcell';go_wp2_with fail;go_roundw
      case rel=>exact⟨k+1,_,_,by omega,by go_num,by rfl,hst,hR'.set _ _ yIn,hW.setCell _ _⟩
      case measure=>simp[intOf];omega
    · have hst:=hI.step hFk om (x:=cN+F (o+k)) (by rw[yJ,yW0 yEn];rfl)
      clear e0 hF;go_wp2_with fail;go_roundw
      case rel=>exact⟨k+1,_,_,by omega,by go_num,by rfl,hst,hR'.set _ _ yIn,hW.setCell _ _⟩
      case measure=>simp[intOf];omega
  · have hkn:k=n:=by omega
    subst hkn;go_wp2_with fail;go_ret;exact⟨cN,F',by simp,hI,hR',hW⟩
end
section
open Go.RowKit
theorem zUb (F:Nat→Nat) (i x y:Nat):upd (upd F i x) i y=upd F i y:=by
 funext j;unfold upd;split<;>rfl
structure LowerInv (F:Nat→Nat) (m:List Nat) (q o k c:Nat) (F':Nat→Nat):Prop where
 le:c≤2000000002
 out:∀j,j<o∨o+k≤j→F' j=F j
 ok:∀j,o≤j→j<o+k→F' j<1000000000
 eq:vf F' o k+q*val (m.take k)=vf F o k+1000000000^k*c
theorem LowerInv.start (F:Nat→Nat) (m:List Nat) (q o:Nat):LowerInv F m q o 0 0 F:=⟨by omega,fun _ _=>rfl,fun _ h1 h2=>by omega,by simp[vf,val]⟩
theorem zVb {q x:Nat} (hq:q≤2000000000) (hx:x<1000000000):q*x≤1999999998000000000:=
 xN (yP2 hq (show x≤999999999 by omega)) yCn
theorem LowerInv.step {F:Nat→Nat} {m:List Nat} {q o k c:Nat} {F':Nat→Nat} (h:LowerInv F m q o k c F') (hF:F (o+k)<1000000000) (hm:Ok m) (hq:q≤2000000000)
 {y c':Nat} (hy:y<1000000000) (hy2:y+(c+q*m.getD k 0)=F (o+k)+1000000000*c') (hc':c'≤2000000002):LowerInv F m q o (k+1) c' (upd F' (o+k) y):=by
 refine⟨hc',fun j hj=> ?_,fun j h3 h4=> ?_,?_⟩
 · unfold upd;rw[zY yEn];exact h.out j yEn
 · unfold upd;split
   · exact hy
   · exact h.ok j h3 yEn
 · simp only[vf]
   rw[zPb (.inr yEn),zSb];have h3:=h.eq;have h4:upd F' (o+k) y (o+k)=y:=by unfold upd;rw[yA rfl]
   rw[h4,yB2];have h6:=zH0 (fun z=>1000000000^k*z) hy2;simp only[xI1]at h6;rw[xI1];have h7:q*(1000000000^k*m.getD k 0)=1000000000^k*(q*m.getD k 0):=by rw[Nat.mul_left_comm]
   have h8:1000000000^k*1000000000*c'=1000000000^k*(1000000000*c'):=by rw[zP2]
   omega
theorem LowerInv.step_ge {F:Nat→Nat} {m:List Nat} {q o k c:Nat} {F':Nat→Nat} (h:LowerInv F m q o k c F') (hF:F (o+k)<1000000000) (hm:Ok m) (hq:q≤2000000000)
 {x:Nat} (hx:x=c+q*m.getD k 0) (hge:x%1000000000≤F (o+k)):LowerInv F m q o (k+1) (x/1000000000) (upd F' (o+k) (F (o+k)-x%1000000000)):=by
 have h1:=zVb hq (yUa hm k);have h2:=h.le;exact h.step hF hm hq yEn yEn yEn
theorem LowerInv.step_lt {F:Nat→Nat} {m:List Nat} {q o k c:Nat} {F':Nat→Nat} (h:LowerInv F m q o k c F') (hF:F (o+k)<1000000000) (hm:Ok m) (hq:q≤2000000000)
 {x:Nat} (hx:x=c+q*m.getD k 0) (hge:F (o+k)<x%1000000000):LowerInv F m q o (k+1) (x/1000000000+1) (upd F' (o+k) (F (o+k)+1000000000-x%1000000000)):=by
 have h1:=zVb hq (yUa hm k);have h2:=h.le;exact h.step hF hm hq yEn yEn yEn
theorem zWb (g o n ca N:Nat) (F:Nat→Nat) (B:Option Addr) (m:List Nat) (cb:Nat) (q:Nat) (w:World) (hR:Rw w g N F) (hF:∀j,o≤j→j<o+n→F j<1000000000) (hn:o+n≤N) (hN:N≤maxLen)
 (hB:Sz w B m) (hO:Off B g) (om:Ok m) (hm:m.length≤maxLen) (hq:q≤2000000000):
 Calls Tryz.prog 267 #[.slice (some ⟨g,o,none⟩) n ca,.slice B m.length cb,.int .u64 q] w fun e w'=>∃c F',e=.returned (.bool (decide (0<c)))∧LowerInv F m q o n c F'∧Rw w' g N F'∧Only g w w':=by
 unfold maxLen at hN hm;go_in;go_wp2_with fail;go_loopw [7,12] (fun c i wr=>∃(k cN:Nat) (F':Nat→Nat),k≤n∧i=.int .i64 k∧c=.int .u64 cN∧LowerInv F m q o k cN F'∧Rw wr g N F'∧Only g w wr) (fun _ i _=>n-(intOf i).toNat)
 case atStart=>exact⟨0,0,F,xJ _,rfl,rfl,LowerInv.start _ _ _ _,hR,Only.refl _ _⟩
 case round=>
  obtain⟨k,cN,F',hk,rfl,rfl,hI,hR',hW⟩:=hrel;by_cases hlt:k<n
  · have c1:=hI.le
    have hFk:=hF (o+k) yEn yEn;have e0:F' (o+k)=F (o+k):=hI.out _ yEn;have hcell:=hR'.cell (i:=o+k) yEn;have hfz:=hR'.frozen (o+k);rw[e0]at hcell;by_cases hmk:k<m.length
    · obtain⟨b,o',rfl,hlt',hcell'⟩:=(hB.only hO hW).at_ (by rintro rfl;simp at hmk)
      have hcm:=hcell' k hmk;have hmk2:=yTa om hmk;have em:m.getD k 0=m[k]:=by rw[yJ,yM hmk];rfl
      have hbd:=zVb hq hmk2;obtain⟨p,hp⟩:∃p,p=q*m[k]:=⟨_,rfl⟩
      have hp2:(q:Int)*(m[k]:Int)=(p:Int):=by rw[hp];push_cast;rfl
      rw[←hp]at hbd;by_cases hge:(cN+p)%1000000000≤F (o+k)
      · have hst:=hI.step_ge hFk om hq (x:=cN+p) (by rw[em,hp]) hge
        have HP:=zC hp;clear e0 hF hcell' em hp;go_wp2_with fail;go_roundw
        case rel=>exact⟨k+1,_,_,by omega,by go_num,by rfl,hst,hR'.set _ _ yEn,hW.setCell _ _⟩
        case measure=>simp[intOf];omega
      · have hst:=hI.step_lt hFk om hq (x:=cN+p) (by rw[em,hp]) yEn
        have HP:=zC hp;clear e0 hF hcell' em hp;have h32:F (o+k)+1000000000≤4294967295:=by omega
        go_wp2_with fail;go_roundw
        case rel=>exact⟨k+1,_,_,by omega,by go_num,by rfl,hst,by rw[←zUb F' (o+k) (F (o+k)+1000000000)];exact(hR'.set _ _ yEn).set _ _ yEn,(hW.setCell _ _).setCell _ _⟩
        case measure=>simp[intOf];omega
    · have em:m.getD k 0=0:=by rw[yJ,yW0 yEn];rfl
      by_cases hge:cN%1000000000≤F (o+k)
      · have hst:=hI.step_ge hFk om hq (x:=cN) (by rw[em,yQ2,xB]) hge
        clear e0 hF em;go_wp2_with fail;go_roundw
        case rel=>exact⟨k+1,_,_,by omega,by go_num,by rfl,hst,hR'.set _ _ yEn,hW.setCell _ _⟩
        case measure=>simp[intOf];omega
      · have hst:=hI.step_lt hFk om hq (x:=cN) (by rw[em,yQ2,xB]) yEn
        clear e0 hF em;have h32:F (o+k)+1000000000≤4294967295:=by omega
        go_wp2_with fail;go_roundw
        case rel=>exact⟨k+1,_,_,by omega,by go_num,by rfl,hst,by rw[←zUb F' (o+k) (F (o+k)+1000000000)];exact(hR'.set _ _ yEn).set _ _ yEn,(hW.setCell _ _).setCell _ _⟩
        case measure=>simp[intOf];omega
  · have hkn:k=n:=by omega
    subst hkn;go_wp2_with fail;go_ret;exact⟨cN,F',by simp,hI,hR',hW⟩
end
end Go.Proofs.YtcfbjdplhgdpfaaGreatDoor

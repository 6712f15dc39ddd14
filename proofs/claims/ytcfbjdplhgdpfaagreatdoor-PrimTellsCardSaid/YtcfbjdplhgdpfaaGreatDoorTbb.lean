import Derived.Test.YtcfbjdplhgdpfaaGreatDoorTam
set_option maxHeartbeats 3200000
set_option maxRecDepth 10000
namespace Go.Proofs.YtcfbjdplhgdpfaaGreatDoor
set_option linter.unusedVariables false
set_option linter.unusedSimpArgs false
theorem zLn {P:Prop}(h:P:=by unfold Figs;omega):P:=h
theorem xZm {P:Prop}(h:P:=by intro c hc;cases hc):P:=h
theorem yVm {P:Prop}(h:P:=by rw[←HPQ.out.1,←HPQ.out.2];exact HZ.out):P:=h
abbrev xQ2:=@Nat.mod_pow_succ
abbrev yX2:=@Nat.le_mul_of_pos_right
abbrev zM2:=@List.take_length
section
open Go.RowKit
theorem xSi (s:ByteArray) (b:Bool) (hb:decide (s.data.toList.head?=some 45)=b) (w:World):Calls Tryz.prog 147 #[.string s] w fun e w'=>e=.returned (.bool b)∧w=w':=by
 subst hb;by_cases h0:s.size=0
 · have hn:s.data.toList=[]:=yR1 (by simpa using h0)
   have e0:s.toList=[]:=by rw[xAe,hn]
   go_in;go_wp2_with fail;go_ret;exact⟨yYe (by simp[hn]),rfl⟩
 · have hp:0<s.size:=by omega
   have hh:=yZe hp;have e0:¬s.toList=[]:=by
    rw[xAe];intro h;rw[h]at hh;cases hh
   rw[hh];have HH:=zC hh;clear hh;by_cases h1:s[0]=45
   · have h2:s[0].toNat=45:=by rw[h1];rfl
     go_in;go_wp2_with fail;go_ret;exact⟨yYe (by simp[h1];exact e0),rfl⟩
   · have h2:¬s[0].toNat=45:=fun h=>h1 (yS2.1 h)
     go_in;go_wp2_with fail;go_ret;exact⟨yYe (by simp[h1];intro _ h;exact h2 yEn),rfl⟩
def B (l:List UInt8):ByteArray:=⟨l.toArray⟩
theorem xTi (l:List UInt8):(B l).data.toList=l:=rfl
theorem xUi (l:List UInt8):(B l).size=l.length:=by simp[B,ByteArray.size]
theorem xVi {a b:ByteArray} (h:a.data.toList=b.data.toList):a=b:=by
 obtain⟨⟨x⟩⟩:=a;obtain⟨⟨y⟩⟩:=b;have:x=y:=h;rw[this]
theorem xWi (l:List UInt8) (hl:l.length≤maxLen) (w:World):Calls Tryz.prog 177 #[.string (B l)] w fun e w'=>e=.returned (.string (B (yIe l)))∧w=w':=by
 have HS:=zC (xUi l);by_cases h:l.head?=some 45
 · cases l with
   |nil=>cases h
   |cons c r=>
    have hc:c=45:=by simpa using h
    subst hc;rw[yMe];have hL:=xSi (B (45::r)) true (by rw[xTi];rfl);have HL:=zC hL;have hs:1≤(B (45::r)).size:=by rw[xUi];simp
    have hr:(B (45::r)).extract 1 (B (45::r)).size=B r:=by
     apply xVi;rw[zJ7,xTi,xTi,xUi,zM2];rfl
    have HR:=zC hr;clear hL hr h;generalize hq:B (45::r)=s at*;go_in;go_wp2_with fail;refine(HL.out _).mono ?_;rintro e w1 ⟨rfl,rfl⟩;go_wp2_with fail;go_ret;exact⟨xPa HR.out,rfl⟩
 · rw[yNe h]
   have hL:=xSi (B l) false (by rw[xTi];exact yG0 h);have HL:=zC hL;clear hL h;go_in;go_wp2_with fail;refine(HL.out _).mono ?_;rintro e w1 ⟨rfl,rfl⟩;go_wp2_with fail;go_ret;exact⟨rfl,rfl⟩
def xXi:Value→Nat
 | .string s=>s.size
 |_=>0
theorem xYi {c:UInt8} {r:List UInt8} (h:xFb (c::r)) (hc:c≠48∨r=[]):c::r=Lib.decDigits (xEb (c::r)):=by
 refine xZb _ h yHn ?_;rcases hc with hc|rfl
 · exact .inr ⟨c,r,rfl,fun e=>hc (yS2.1 e)⟩
 · exact .inl rfl
def xZi (n:Nat) (w:World) (e:Ending) (w':World):Prop:=e=.returned (.string (B (Lib.decDigits n)))∧w=w'
theorem zAj (l:List UInt8) (hd:xFb l) (hl:l.length≤maxLen) (w:World):Calls Tryz.prog 186 #[.string (B l)] w (xZi (xEb l) w):=by
 go_in;go_wp2_with fail;go_loop [0] (fun v=>∃r:List UInt8,v=.string (B r)∧xFb r∧xEb r=xEb l) (fun v=>xXi v)
 case atStart=>exact⟨l,rfl,hd,rfl⟩
 case round=>
  obtain⟨r,rfl,hr,hv⟩:=hrel;have HV:=zC hv;clear hv;cases r with
  |nil=>
   have hz:(B []).size=0:=rfl;have h1:¬(1:Int)<(B []).size:=by rw[hz];decide
   have e0:(B []).toList.isEmpty=true:=by rw[xAe];rfl
   go_wp2_with fail;go_ret;exact⟨xPa (by rw[←HV.out,show xEb []=0 from rfl,xQb yCn];rfl),rfl⟩
  |cons c q=>
   have hs:=xUi (c::q);have e0:(B (c::q)).toList.isEmpty=false:=by rw[xAe,xTi];rfl
   by_cases h1:q=[]
   · have h2:¬(1:Int)<(B (c::q)).size:=by rw[hs,h1];exact Int.lt_irrefl 1
     have hf:B (c::q)=B (Lib.decDigits (xEb l)):=by rw[←HV.out,←xYi hr (.inr h1)]
     have HF:=zC hf;clear hf hs hr;generalize B (c::q)=s at*;go_wp2_with fail;go_ret;exact⟨xPa HF.out,rfl⟩
   · have hq:0<q.length:=zE0.2 h1
     have h2:(1:Int)<(B (c::q)).size:=by rw[hs];simp;omega
     have hp:0<(B (c::q)).size:=by omega
     have hg:(B (c::q))[0]=c:=rfl;by_cases hc:c=48
     · have e1:((((B (c::q))[0]).toNat:Int)==48)=true:=by rw[hg,hc];rfl
       have hx:(B (c::q)).extract 1 (B (c::q)).size=B q:=by
        apply xVi;rw[zJ7,xTi,xTi,xUi,zM2];rfl
       have HX:=zC hx;have HC:=zC hc;have HQ:=zC (And.intro hr hs);clear hx hc hr hs hg;generalize hgen:B (c::q)=s at*;clear hgen;go_wp2_with fail;go_round
       case rel=>exact⟨q,zH0 Value.string HX.out,fun x hx=>HQ.out.1 x (by simp[hx]),by rw[←HV.out,HC.out];rfl⟩
       case measure=>
        simp only[xXi];rw[HX.out,xUi,HQ.out.2];simp
     · have e1:((((B (c::q))[0]).toNat:Int)==48)=false:=by
        rw[hg];exact zT0.2 fun e=>hc (yS2.1 (show c.toNat=48 by omega))
       have hf:B (c::q)=B (Lib.decDigits (xEb l)):=by rw[←HV.out,←xYi hr (.inl hc)]
       have HF:=zC hf;clear hf hs hr hg hc;generalize B (c::q)=s at*;go_wp2_with fail;go_ret;exact⟨xPa HF.out,rfl⟩
def sgn (b:Bool) (n:Nat):Int:=if b then-(n:Int)else n
theorem zBj (n:Nat):S (n:Int)=B (Lib.decDigits n):=zRe yEn yEn
theorem zCj {n:Nat} (h:0<n):S (-(n:Int))=B (45::Lib.decDigits n):=zSe yEn yEn
theorem zDj {n:Nat} (h:Lib.decDigits n=[48]):n=0:=xWb (h.trans (xQb (n:=0) yCn).symm)
def zEj (z:Int) (w:World) (e:Ending) (w':World):Prop:=e=.returned (.string (S z))∧w=w'
theorem zFj (l:List UInt8) (hd:xFb l) (hl:l.length≤maxLen) (hn:(Lib.decDigits (xEb l)).length≤9000) (b:Bool) (w:World):
 Calls Tryz.prog 176 #[.string (B l),.bool b] w (zEj (sgn b (xEb l)) w):=by
 have hB:=zAj l hd hl;have hs:=xUi (Lib.decDigits (xEb l));generalize hN:xEb l=n at*;have HB:=zC hB;generalize B l=s at*;clear hB hN hd hl;cases b
 · have HS:=zC (zBj n)
   clear hs hn;go_in;go_wp2_with fail;refine(HB.out _).mono ?_;rintro e w1 ⟨rfl,rfl⟩;go_wp2_with fail;go_ret;exact⟨xPa HS.out.symm,rfl⟩
 · by_cases h0:n=0
   · subst h0
     have e0:((B (Lib.decDigits 0)).toList==[48])=true:=by rw[xAe,xTi,xQb yCn];rfl
     have HS:=zC (zBj 0);have ht:(B (Lib.decDigits 0)).size≤9000:=by omega
     clear hs hn;generalize hq:B (Lib.decDigits 0)=t at*;go_in;go_wp2_with fail;refine(HB.out _).mono ?_;rintro e w1 ⟨rfl,rfl⟩;rw[hq];go_wp2_with fail;refine(HB.out _).mono ?_;rintro e w1 ⟨rfl,rfl⟩;rw[hq];go_wp2_with fail;go_ret;exact⟨xPa HS.out.symm,rfl⟩
   · have e0:((B (Lib.decDigits n)).toList==[48])=false:=by
      rw[xAe,xTi];exact zT0.2 fun h=>h0 (zDj h)
     have hcat:(⟨#[45]⟩:ByteArray)++B (Lib.decDigits n)=S (-(n:Int)):=by rw[zCj yEn];exact zTe _
     have HS:=zC hcat;have ht:(B (Lib.decDigits n)).size≤9000:=by omega
     clear hs hn hcat h0;generalize hq:B (Lib.decDigits n)=t at*;go_in;go_wp2_with fail;refine(HB.out _).mono ?_;rintro e w1 ⟨rfl,rfl⟩;rw[hq];go_wp2_with fail;refine(HB.out _).mono ?_;rintro e w1 ⟨rfl,rfl⟩;rw[hq];go_wp2_with fail;go_ret;exact⟨xPa HS.out,rfl⟩
theorem zGj {l:List UInt8} (hd:xFb l) {i k:Nat} (h:k+1+i=l.length) (hk:k<l.length):xEb l/10^i%10=(l[k]).toNat-48:=by
 have hc:=hd l[k] (xH hk);have e:l=l.take k++[l[k]]++l.drop (k+1):=by simp
 have hdl:(l.drop (k+1)).length=i:=by simp;omega
 have hlt:=xOb (l:=l.drop (k+1)) (fun c hc=>hd c (xG1 hc));rw[hdl]at hlt;have hv:xEb l=(xEb (l.take k)*10+((l[k]).toNat-48))*10^i+xEb (l.drop (k+1)):=by
  have:=zH0 xEb e;rw[xHb,xGb,hdl]at this;exact this
 rw[hv,yP1,Nat.mul_add_div (yH1 yCn),xX1 hlt];omega
theorem zHj {l:List UInt8} (hd:xFb l) {i:Nat} (h:l.length≤i):xEb l/10^i%10=0:=by
 rw[xX1 (yF (xOb hd) (yM1 yCn h))]
theorem zIj {a b:Int} (h:a=b):Ending.returned (.int .i64 a)=.returned (.int .i64 b):=by rw[h]
theorem zJj (l:List UInt8) (hd:xFb l) (hl:l.length≤9000) (i:Nat) (hi:i≤9000) (w:World):
 Calls Tryz.prog 212 #[.string (B l),.int .i64 i] w (zE7 ((xEb l/10^i%10:Nat):Int) w):=by
 have hs:=xUi l;by_cases h:l.length≤i
 · have e0:((B l).size:Int)≤i:=by omega
   rw[zHj hd h];clear hs hd;generalize B l=s at*;go_in;go_wp2_with fail;go_ret;exact⟨rfl,zI _ _⟩
 · obtain⟨k,hk⟩:∃k,k+1+i=l.length:=⟨l.length-1-i,by omega⟩
   have hkl:k<l.length:=by omega
   have hf:=zGj hd hk hkl;have hks:k<(B l).size:=by omega
   have hc:48≤((B l)[k]).toNat∧((B l)[k]).toNat≤57:=hd l[k] (xH hkl);rw[hf];show Calls Tryz.prog 212 #[.string (B l),.int .i64 i] w (zE7 ((((B l)[k]).toNat-48:Nat):Int) w);have e0:¬((B l).size:Int)≤i:=by omega
   have e1:((B l).size:Int)-1-i=k:=by omega
   have e2:(B l).size≤9000:=by omega
   clear hs hd hf hk hkl;generalize B l=s at*;go_in;go_wp2_with fail;go_ret;exact⟨zIj yEn,zI _ _⟩
theorem zKj {l:List UInt8} {i:Nat} (hi:i<l.length):xEb l=(xEb (l.take i)*10+((l[i]).toNat-48))*10^(l.length-1-i)+xEb (l.drop (i+1)):=by
 have e:l=l.take i++[l[i]]++l.drop (i+1):=by simp
 have hdl:(l.drop (i+1)).length=l.length-1-i:=by simp;omega
 have:=zH0 xEb e;rw[xHb,xGb,hdl]at this;exact this
theorem zLj {l m:List UInt8} (hl:xFb l) (hm:xFb m) (h:l.length=m.length) {i:Nat} (hi:i<l.length) (hi':i<m.length) (ht:l.take i=m.take i) (hlt:(l[i]).toNat<(m[i]).toNat):xEb l<xEb m:=by
 rw[zKj hi,zKj hi',ht,h];have h1:=xOb (l:=l.drop (i+1)) (fun c hc=>hl c (xG1 hc));have e1:(l.drop (i+1)).length=m.length-1-i:=by simp;omega
 rw[e1]at h1;have hd:=hl l[i] (xH hi);have h2:(xEb (m.take i)*10+((l[i]).toNat-48)+1)*10^(m.length-1-i)≤(xEb (m.take i)*10+((m[i]).toNat-48))*10^(m.length-1-i):=xE _ yEn;rw[xV,xY]at h2;omega
theorem zMj {l m:List UInt8} {i:Nat} (hi:i<l.length) (hi':i<m.length) (ht:l.take i=m.take i) (he:(l[i]).toNat=(m[i]).toNat):l.take (i+1)=m.take (i+1):=by
 rw[yE0 hi,yE0 hi',ht,yS2.1 he]
theorem zNj {x y:Nat} (h:(Lib.decDigits x).length<(Lib.decDigits y).length):x<y:=by
 have hp:=zBc x;have h1:=(zAc (n:=x) hp).1 (zR _);have h2:¬y<10^(Lib.decDigits x).length:=fun h3=>by
  have:=(zAc (n:=y) hp).2 h3;omega
 omega
def zOj (z:Int) (w:World) (e:Ending) (w':World):Prop:=e=.returned (.int .i64 z)∧Drawn w w'
theorem zPj {x y:Nat} (h:x<y):xJa x y= -1:=by unfold xJa;rw[yA h]
theorem zQj {x y:Nat} (h:y<x):xJa x y=1:=by unfold xJa;rw[zY yEn,yA h]
theorem zRj (x y:Nat) (hx:(Lib.decDigits x).length≤9000) (hy:(Lib.decDigits y).length≤9000) (w:World):
 Calls Tryz.prog 184 #[.string (B (Lib.decDigits x)),.string (B (Lib.decDigits y))] w (zOj (xJa x y) w):=by
 have hs:=xUi (Lib.decDigits x);have ht:=xUi (Lib.decDigits y);by_cases h:(Lib.decDigits x).length=(Lib.decDigits y).length
 · have hdx:=xUb x
   have hdy:=xUb y;have hvx:=xTb x;have hvy:=xTb y;generalize Lib.decDigits x=l at*;generalize Lib.decDigits y=m at*;obtain⟨s,es⟩:∃s,s=B l:=⟨_,rfl⟩
   obtain⟨t,et⟩:∃t,t=B m:=⟨_,rfl⟩
   rw[←es,←et];rw[←es]at hs;rw[←et]at ht;have gx:∀(k:Nat) (hk:k<s.size) (hk':k<l.length),(s[k]).toNat=(l[k]).toNat:=by subst es;exact fun k hk hk'=>rfl
   have gy:∀(k:Nat) (hk:k<t.size) (hk':k<m.length),(t[k]).toNat=(m[k]).toNat:=by subst et;exact fun k hk hk'=>rfl
   have HG:=zC (And.intro gx gy);have HD:=zC (And.intro hdx (And.intro hdy (And.intro hvx (And.intro hvy h))));have e0:s.size=t.size:=by omega
   have e1:t.size≤9000:=by omega
   have HS:=zC (And.intro hs ht);clear gx gy hdx hdy hvx hvy hs ht h es et;have e2:(s.size:Int)=t.size:=by omega
   go_in;go_wp2_with fail;go_loopw [5] (fun i wr=>∃k:Nat,k≤t.size∧i=.int .i64 k∧l.take k=m.take k∧Drawn w wr) (fun i _=>t.size-(intOf i).toNat)
   case atStart=>exact⟨0,xJ _,rfl,rfl,Drawn.refl _⟩
   case round=>
    obtain⟨k,hk,rfl,hT,hW⟩:=hrel;have HT:=zC hT;clear hT;by_cases hlt:k<t.size
    · have hks:k<s.size:=by omega
      by_cases c1:(s[k]).toNat<(t[k]).toNat
      · go_wp2_with fail
        go_region
        go_wp2_with fail;go_ret;exact⟨zIj (zPj (by
         obtain⟨h1,h2,h3,h4,h5⟩:=HD.out;obtain⟨g1,g2⟩:=HG.out;obtain⟨s1,s2⟩:=HS.out;have:=zLj h1 h2 h5 (i:=k) yEn yEn HT.out (by rw[←g1 k hks yEn,←g2 k hlt yEn];exact c1);omega)).symm,hW.more _⟩
      · by_cases c2:(t[k]).toNat<(s[k]).toNat
        · go_wp2_with fail
          go_region
          go_wp2_with fail;go_region
          go_wp2_with fail;go_ret;exact⟨zIj (zQj (by
           obtain⟨h1,h2,h3,h4,h5⟩:=HD.out;obtain⟨g1,g2⟩:=HG.out;obtain⟨s1,s2⟩:=HS.out;have:=zLj h2 h1 h5.symm (i:=k) yEn yEn HT.out.symm (by rw[←g1 k hks yEn,←g2 k hlt yEn];exact c2);omega)).symm,(hW.more _).more _⟩
        · go_wp2_with fail
          go_region
          go_wp2_with fail;go_region
          go_wp2_with fail;go_roundw
          case rel=>exact⟨k+1,by omega,by go_num,(by
           obtain⟨h1,h2,h3,h4,h5⟩:=HD.out;obtain⟨g1,g2⟩:=HG.out;obtain⟨s1,s2⟩:=HS.out;exact zMj yEn yEn HT.out (by rw[←g1 k hks yEn,←g2 k hlt yEn];omega)),(hW.more _).more _⟩
          case measure=>simp[intOf];omega
    · go_wp2_with fail
      go_ret;exact⟨zIj (by
       obtain⟨h1,h2,h3,h4,h5⟩:=HD.out;obtain⟨s1,s2⟩:=HS.out;have h6:=HT.out;rw[yW yEn,yW yEn]at h6;rw[←h3,←h4,h6,zAb]),hW⟩
 · have e0:((B (Lib.decDigits x)).size:Int)≠(B (Lib.decDigits y)).size:=by omega
   by_cases h2:(Lib.decDigits x).length<(Lib.decDigits y).length
   · have hv:=zPj (zNj h2)
     have e1:((B (Lib.decDigits x)).size:Int)<(B (Lib.decDigits y)).size:=by omega
     have HV:=zC hv;clear hs ht h hv h2 hx hy;generalize B (Lib.decDigits x)=s at*;generalize B (Lib.decDigits y)=t at*;go_in;go_wp2_with fail;go_ret;exact⟨zIj HV.out.symm,Drawn.refl _⟩
   · have hv:=zQj (zNj (x:=y) (y:=x) yEn)
     have e1:¬((B (Lib.decDigits x)).size:Int)<(B (Lib.decDigits y)).size:=by omega
     have HV:=zC hv;clear hs ht h hv h2 hx hy;generalize B (Lib.decDigits x)=s at*;generalize B (Lib.decDigits y)=t at*;go_in;go_wp2_with fail;go_ret;exact⟨zIj HV.out.symm,Drawn.refl _⟩
end
section
open Go.RowKit
def zSj (x y i c:Nat) (R:List UInt8):Prop:=xFb R∧R.length=i∧c≤1∧xEb R+c*10^i=x%10^i+y%10^i
def zTj (d:Nat):UInt8:=UInt8.ofNat (48+d)
theorem zUj {d:Nat} (h:d<10):(zTj d).toNat=48+d:=by
 unfold zTj;rw[UInt8.toNat_ofNat'];omega
theorem zVj (x y:Nat):zSj x y 0 0 []:=⟨xZm,rfl,yCn,(by simp[xEb,Nat.mod_one])⟩
theorem zWj {x y i c:Nat} {R:List UInt8} (h:zSj x y i c R) {n:Nat} (hn:n=x/10^i%10+y/10^i%10+c):zSj x y (i+1) (n/10) (zTj (n%10)::R):=by
 obtain⟨h1,h2,h3,h4⟩:=h;have hb:=zUj (d:=n%10) (xD1 _ yCn);have e1:x/10^i%10<10:=xD1 _ yCn;have e2:y/10^i%10<10:=xD1 _ yCn;refine⟨?_,by simp[h2],by omega,?_⟩
 · intro c hc
   rcases List.mem_cons.1 hc with rfl|hc
   · omega
   · exact h1 c hc
 · rw[xIb,hb,h2,xQ2,xQ2,yB2]
   have e3:48+n%10-48=n%10:=by omega
   rw[e3];have e4:n%10+10*(n/10)=n:=Nat.mod_add_div n 10;have e5:n/10*(10^i*10)=10^i*(10*(n/10)):=by
    rw[yP1,zP2]
   have e6:n%10*10^i+n/10*(10^i*10)=n*10^i:=by
    rw[e5,yP1 (n%10),←xI1,e4,yP1]
   have e7:n*10^i=10^i*(x/10^i%10)+10^i*(y/10^i%10)+c*10^i:=by
    rw[hn,yP1,xI1,xI1,yP1 c]
   omega
theorem zXj {x y i c:Nat} {R:List UInt8} (h:zSj x y (i+1) c R) (hx:x<10^i) (hy:y<10^i):xEb R=x+y:=by
 obtain⟨h1,h2,h3,h4⟩:=h;have e:10^(i+1)=10^i*10:=yB2 ..;have hp:0<10^i:=yH1 yCn;rw[e]at h4;rw[xB1 yEn,xB1 yEn]at h4;have:c=0:=by
  rcases yL0 c with h0|h0
  · exact h0
  · have:c=1:=by omega
    subst this;omega
 subst this;omega
theorem zYj (l m:List UInt8):B l++B m=B (l++m):=by
 apply xVi;rw[yY2,Array.toList_append,xTi,xTi,xTi]
theorem zZj (W:World) (b:UInt8) (z:Int) (hz:z=b.toNat):
 (convert 137 9 (.slice (some ⟨W.heap.size,0,none⟩) 1 1)).run Tryz.prog (W.alloc (.cells #[.int .u8 z] 5))=.ok (.string (B [b])) (W.alloc (.cells #[.int .u8 z] 5)):=by
 subst hz;exact zK0 (P:=Tryz.prog) (W.alloc (.cells #[.int .u8 b.toNat] 5)) 137 9 5 ⟨W.heap.size,0,none⟩ 1 [b] Tryz.underlying137 Tryz.underlying5 Tryz.underlying9 (fun j hj=>by
  have:j=0:=by simpa using hj
  subst this;rw[zM0,World.cell?_alloc_new];rfl)
def yAj (s:ByteArray) (w:World) (e:Ending) (w':World):Prop:=e=.returned (.string s)∧Below w.heap.size w w'
theorem yBj (x y:Nat) (hx:(Lib.decDigits x).length≤4000) (hy:(Lib.decDigits y).length≤4000) (w:World):
 Calls Tryz.prog 183 #[.string (B (Lib.decDigits x)),.string (B (Lib.decDigits y))] w (yAj (B (Lib.decDigits (x+y))) w):=by
 have hD:=fun(i:Nat) (hi:i≤9000) (w1:World)=>zJj (Lib.decDigits x) (xUb x) yEn i hi w1;have hD':=fun(i:Nat) (hi:i≤9000) (w1:World)=>zJj (Lib.decDigits y) (xUb y) yEn i hi w1;rw[xTb]at hD hD';have hs:=xUi (Lib.decDigits x);have ht:=xUi (Lib.decDigits y);obtain⟨M,hM,hM1,hM2⟩:∃M:Nat,max ((B (Lib.decDigits x)).size:Int) (B (Lib.decDigits y)).size=M∧(Lib.decDigits x).length≤M∧(Lib.decDigits y).length≤M∧M≤4000:=⟨max (B (Lib.decDigits x)).size (B (Lib.decDigits y)).size,by omega,by omega,by omega,by omega⟩
 have hxl:x<10^M:=yF ((zAc (zBc x)).1 (zR _)) (yM1 yCn hM1);have hyl:y<10^M:=yF ((zAc (zBc y)).1 (zR _)) (yM1 yCn hM2.1);have hM3:=hM2.2;have HX:=zC (And.intro hxl hyl);have HD:=zC hD;have HD':=zC hD';have HB:=zC zAj;clear hxl hyl hD hD' hM1 hM2 hs ht hx hy;generalize B (Lib.decDigits x)=s at*;generalize B (Lib.decDigits y)=t at*;go_in;go_wp2_with fail;go_loopw [5,6,7] (fun sv cv iv wr=>∃(i c:Nat) (R:List UInt8),i≤M+1∧iv=.int .i64 i∧cv=.int .i64 c∧sv=.string (B R)∧zSj x y i c R∧Below w.heap.size w wr) (fun _ _ iv _=>M+1-(intOf iv).toNat)
 case atStart=>exact⟨0,0,[],xJ _,rfl,rfl,rfl,zVj x y,zI _ _⟩
 case round=>
  obtain⟨i,c,R,hi,rfl,rfl,rfl,hI,hb⟩:=hrel;have HI:=zC hI;have hR:=xUi R;have hR2:(B R).size=i:=by rw[hR];exact hI.2.1
  have hc1:c≤1:=hI.2.2.1;clear hI hR;by_cases hlt:i≤M
  · have h1:=HD.out i yEn
    have h2:=HD'.out i yEn;obtain⟨p,hp⟩:∃p,p=x/10^i%10:=⟨_,rfl⟩
    obtain⟨q,hq⟩:∃q,q=y/10^i%10:=⟨_,rfl⟩
    rw[←hp]at h1;rw[←hq]at h2;have hp9:p<10:=by rw[hp];exact xD1 _ yCn
    have hq9:q<10:=by rw[hq];exact xD1 _ yCn
    have H1:=zC h1;have H2:=zC h2;have HPQ:=zC (And.intro hp hq);clear h1 h2 hp hq;go_wp2_with fail;refine(H1.out _).mono ?_;rintro e w1 ⟨rfl,hb1⟩;go_wp2_with fail;refine(H2.out _).mono ?_;rintro e w2 ⟨rfl,hb2⟩;have hbb:=(hb.trans (hb1.mono hb.size))
    have hb3:=hbb.trans (hb2.mono hbb.size);have hz:(48+((p:Int)+q+c)%10:Int)=((zTj ((p+q+c)%10)).toNat:Int):=by
     rw[zUj (xD1 _ yCn)];omega
    have hcv:=zZj w2 (zTj ((p+q+c)%10)) _ hz;have hd1:(B [zTj ((p+q+c)%10)]).size=1:=xUi _;have HC:=zC (zYj [zTj ((p+q+c)%10)] R);clear hb hb1 hb2 hbb hz;go_wp2_with fail;refine⟨⟨i+1,(p+q+c)/10,zTj ((p+q+c)%10)::R,by omega,by go_num,zH0 (Value.int .i64) yEn,zH0 Value.string HC.out,?_,hb3.alloc hb3.size _⟩,by simp[intOf];omega⟩;exact zWj HI.out (by rw[←HPQ.out.1,←HPQ.out.2])
  · have hi2:i=M+1:=by omega
    subst hi2;have hv:=zXj HI.out HX.out.1 HX.out.2;have hA:=HB.out R HI.out.1 (by rw[HI.out.2.1];unfold maxLen;omega);rw[hv]at hA;have HA:=zC hA;clear hA hv;go_wp2_with fail;refine(HA.out _).mono ?_;rintro e w3 ⟨rfl,rfl⟩;go_wp2_with fail;go_ret;exact⟨rfl,hb⟩
def yCj (x y i c:Nat) (R:List UInt8):Prop:=xFb R∧R.length=i∧c≤1∧xEb R+y%10^i=x%10^i+c*10^i
theorem yDj (x y:Nat):yCj x y 0 0 []:=⟨xZm,rfl,yCn,(by simp[xEb,Nat.mod_one])⟩
theorem yEj {x y i c d c':Nat} {R:List UInt8} (h:yCj x y i c R) (hd:d<10) (hc':c'≤1) (hn:d+c+y/10^i%10=x/10^i%10+10*c'):yCj x y (i+1) c' (zTj d::R):=by
 obtain⟨h1,h2,h3,h4⟩:=h;have hb:=zUj hd;refine⟨?_,by simp[h2],hc',?_⟩
 · intro c hc
   rcases List.mem_cons.1 hc with rfl|hc
   · omega
   · exact h1 c hc
 · rw[xIb,hb,h2,xQ2,xQ2,yB2]
   have e3:48+d-48=d:=by omega
   rw[e3];have e:=zH0 (fun t=>10^i*t) hn;simp only[xI1]at e;have e5:c'*(10^i*10)=10^i*(10*c'):=by rw[yP1,zP2]
   have e6:d*10^i=10^i*d:=yP1 ..;have e7:c*10^i=10^i*c:=yP1 ..;omega
theorem yFj {x y i c:Nat} {R:List UInt8} (h:yCj x y i c R) (hx:x<10^i) (hy:y≤x):xEb R=x-y:=by
 obtain⟨h1,h2,h3,h4⟩:=h;have hl:=xOb h1;rw[h2]at hl;rw[xB1 yEn,xB1 yEn]at h4;have:c=0:=by
  rcases yL0 c with h0|h0
  · exact h0
  · have:c=1:=by omega
    subst this;omega
 subst this;omega
theorem yGj (x y:Nat) (hxy:y≤x) (hx:(Lib.decDigits x).length≤4000) (hy:(Lib.decDigits y).length≤4000) (w:World):
 Calls Tryz.prog 185 #[.string (B (Lib.decDigits x)),.string (B (Lib.decDigits y))] w (yAj (B (Lib.decDigits (x-y))) w):=by
 have hD:=fun(i:Nat) (hi:i≤9000) (w1:World)=>zJj (Lib.decDigits x) (xUb x) yEn i hi w1;have hD':=fun(i:Nat) (hi:i≤9000) (w1:World)=>zJj (Lib.decDigits y) (xUb y) yEn i hi w1;rw[xTb]at hD hD';have hs:=xUi (Lib.decDigits x);have hxl:x<10^(B (Lib.decDigits x)).size:=by
  rw[hs];exact(zAc (zBc x)).1 (zR _)
 have hM:(B (Lib.decDigits x)).size≤4000:=by omega
 have HX:=zC (And.intro hxl hxy);have HD:=zC hD;have HD':=zC hD';have HB:=zC zAj;clear hxl hxy hD hD' hs hx hy;generalize B (Lib.decDigits x)=s at*;generalize B (Lib.decDigits y)=t at*;go_in;go_wp2_with fail;go_loopw [5,6,7] (fun sv cv iv wr=>∃(i c:Nat) (R:List UInt8),i≤s.size∧iv=.int .i64 i∧cv=.int .i64 c∧sv=.string (B R)∧yCj x y i c R∧Below w.heap.size w wr) (fun _ _ iv _=>s.size-(intOf iv).toNat)
 case atStart=>exact⟨0,0,[],xJ _,rfl,rfl,rfl,yDj x y,zI _ _⟩
 case round=>
  obtain⟨i,c,R,hi,rfl,rfl,rfl,hI,hb⟩:=hrel;have HI:=zC hI;have hR:=xUi R;have hR2:(B R).size=i:=by rw[hR];exact hI.2.1
  have hc1:c≤1:=hI.2.2.1;clear hI hR;by_cases hlt:i<s.size
  · have h1:=HD.out i yEn
    have h2:=HD'.out i yEn;obtain⟨p,hp⟩:∃p,p=x/10^i%10:=⟨_,rfl⟩
    obtain⟨q,hq⟩:∃q,q=y/10^i%10:=⟨_,rfl⟩
    rw[←hp]at h1;rw[←hq]at h2;have hp9:p<10:=by rw[hp];exact xD1 _ yCn
    have hq9:q<10:=by rw[hq];exact xD1 _ yCn
    have H1:=zC h1;have H2:=zC h2;have HPQ:=zC (And.intro hp hq);clear h1 h2 hp hq;go_wp2_with fail;refine(H1.out _).mono ?_;rintro e w1 ⟨rfl,hb1⟩;go_wp2_with fail;refine(H2.out _).mono ?_;rintro e w2 ⟨rfl,hb2⟩;have hbb:=(hb.trans (hb1.mono hb.size))
    have hb3:=hbb.trans (hb2.mono hbb.size);clear hb hb1 hb2 hbb;by_cases hneg:(p:Int)-q-c<0
    · obtain⟨d,hd⟩:∃d:Nat,(p:Int)-q-c+10=d:=⟨((p:Int)-q-c+10).toNat,by omega⟩
      have hd9:d<10:=by omega
      have hz:(48+(d:Int))=((zTj d).toNat:Int):=by rw[zUj hd9];omega
      have hcv:=zZj w2 (zTj d) _ hz;have hd1:(B [zTj d]).size=1:=xUi _;have HC:=zC (zYj [zTj d] R);have HZ:=zC (show d+c+q=p+10*1 by omega);clear hz;go_wp2_with fail;refine⟨⟨i+1,1,zTj d::R,by omega,by go_num,rfl,zH0 Value.string HC.out,?_,hb3.alloc hb3.size _⟩,by simp[intOf];omega⟩;exact yEj HI.out hd9 yCn yVm
    · obtain⟨d,hd⟩:∃d:Nat,(p:Int)-q-c=d:=⟨((p:Int)-q-c).toNat,by omega⟩
      have hd9:d<10:=by omega
      have hz:(48+(d:Int))=((zTj d).toNat:Int):=by rw[zUj hd9];omega
      have hcv:=zZj w2 (zTj d) _ hz;have hd1:(B [zTj d]).size=1:=xUi _;have HC:=zC (zYj [zTj d] R);have HZ:=zC (show d+c+q=p+10*0 by omega);have hneg2:¬(d:Int)<0:=by omega
      clear hz hneg;go_wp2_with fail;refine⟨⟨i+1,0,zTj d::R,by omega,by go_num,rfl,zH0 Value.string HC.out,?_,hb3.alloc hb3.size _⟩,by simp[intOf];omega⟩;exact yEj HI.out hd9 yCn yVm
  · have hi2:i=s.size:=by omega
    have hv:=yFj HI.out (by rw[hi2];exact HX.out.1) HX.out.2;have hA:=HB.out R HI.out.1 (by rw[HI.out.2.1];unfold maxLen;omega);rw[hv]at hA;have HA:=zC hA;clear hA hv;go_wp2_with fail;refine(HA.out _).mono ?_;rintro e w3 ⟨rfl,rfl⟩;go_wp2_with fail;go_ret;exact⟨rfl,hb⟩
theorem yHj {x y k:Nat} (hk:0<k) (hx:(Lib.decDigits x).length≤k) (hy:(Lib.decDigits y).length≤k):(Lib.decDigits (x+y)).length≤k+1:=by
 refine(zAc yEn).2 ?_;have h1:=(zAc hk).1 hx;have h2:=(zAc hk).1 hy;rw[yB2];generalize 10^k=t at*;omega
theorem yIj {x y:Nat} (h:x≤y) {k:Nat} (hk:0<k) (hy:(Lib.decDigits y).length≤k):(Lib.decDigits x).length≤k:=(zAc hk).2 (yT1 h ((zAc hk).1 hy))
def Figs (k:Nat) (x:Int):Prop:=(Lib.decDigits x.natAbs).length≤k
theorem yJj (x:Int):(Lib.itoa x).length≤(Lib.decDigits x.natAbs).length+1:=by
 rcases zT1 x 0 with h|h
 · rw[yQe h];simp
 · rw[yPe h];omega
theorem yKj (x:Int):decide ((Lib.itoa x).head?=some 45)=decide (x<0):=by
 rcases zT1 x 0 with h|h
 · rw[yQe h];simp[h]
 · rw[yPe h,yG0 (yOe _),yG0 yEn]
theorem yLj (x:Int) (w:World):Calls Tryz.prog 147 #[.string (S x)] w fun e w'=>e=.returned (.bool (decide (x<0)))∧w=w':=xSi (S x) _ (yKj x) w
theorem yMj (x:Int) (hx:Figs 4000 x) (w:World):Calls Tryz.prog 177 #[.string (S x)] w fun e w'=>e=.returned (.string (B (Lib.decDigits x.natAbs)))∧w=w':=by
 have h:=xWi (Lib.itoa x) (by have:=yJj x;unfold Figs at hx;unfold maxLen;omega) w;rw[yRe]at h;exact h
theorem yNj (n:Nat) (hn:(Lib.decDigits n).length≤4000) (b:Bool) (w:World):Calls Tryz.prog 176 #[.string (B (Lib.decDigits n)),.bool b] w (zEj (sgn b n) w):=by
 have h:=zFj (Lib.decDigits n) (xUb n) xXm (by rw[xTb];omega) b w;rwa [xTb]at h
theorem yOj (x:Int) (hx:Figs 4000 x) (w:World):Calls Tryz.prog 146 #[.string (S x)] w (zEj (-x) w):=by
 have h1:=yMj x hx;have h2:=yLj x;have h3:=yNj x.natAbs hx (!decide (x<0));have hv:sgn (!decide (x<0)) x.natAbs= -x:=by
  by_cases h:x<0
  · rw[yI0 h];show(x.natAbs:Int)= -x;omega
  · rw[yG0 h];show-(x.natAbs:Int)= -x;omega
 rw[hv]at h3;have H1:=zC h1;have H2:=zC h2;have H3:=zC h3;clear h1 h2 h3 hv hx;generalize S x=s at*;generalize B (Lib.decDigits x.natAbs)=t at*;generalize decide (x<0)=b at*;go_in;go_wp2_with fail;refine(H1.out _).mono ?_;rintro e w1 ⟨rfl,rfl⟩;go_wp2_with fail;refine(H2.out _).mono ?_;rintro e w1 ⟨rfl,rfl⟩;go_wp2_with fail;refine(H3.out _).mono ?_;rintro e w1 ⟨rfl,rfl⟩;go_wp2_with fail;go_ret;exact⟨rfl,rfl⟩
theorem yPj {x y:Nat} (h:y≤x):¬xJa x y<0:=by unfold xJa;split<;>(try split)<;>omega
theorem yQj (x y:Int) (hx:Figs 3999 x) (hy:Figs 3999 y) (w:World):Calls Tryz.prog 160 #[.string (S x),.string (S y)] w (yAj (S (x+y)) w):=by
 unfold Figs at hx hy;have h1:=yLj x;have h2:=yLj y;have h3:=yMj x zLn;have h4:=yMj y zLn;have H1:=zC h1;have H2:=zC h2;have H3:=zC h3;have H4:=zC h4;clear h1 h2 h3 h4;by_cases hs:decide (x<0)=decide (y<0)
 · have h5:=yBj x.natAbs y.natAbs yEn yEn
   have h6:=yNj (x.natAbs+y.natAbs) (yHj yCn hx hy) (decide (x<0));have hv:sgn (decide (x<0)) (x.natAbs+y.natAbs)=x+y:=by
    by_cases h:x<0
    · have h':y<0:=zK1 (by rw[←hs];exact yI0 h)
      rw[yI0 h];show-((x.natAbs+y.natAbs:Nat):Int)=x+y;omega
    · have h':¬y<0:=of_decide_eq_false (by rw[←hs];exact yG0 h)
      rw[yG0 h];show((x.natAbs+y.natAbs:Nat):Int)=x+y;omega
   rw[hv]at h6;have H5:=zC h5;have H6:=zC h6;have e0:(decide (x<0)==decide (y<0))=true:=by rw[hs];simp
   clear h5 h6 hv hx hy hs;generalize S x=s at*;generalize S y=t at*;generalize B (Lib.decDigits x.natAbs)=s1 at*;generalize B (Lib.decDigits y.natAbs)=t1 at*;generalize decide (x<0)=b at*;generalize decide (y<0)=c at*;go_in;go_wp2_with fail;refine(H1.out _).mono ?_;rintro e w1 ⟨rfl,rfl⟩;go_wp2_with fail;refine(H2.out _).mono ?_;rintro e w1 ⟨rfl,rfl⟩;go_wp2_with fail;refine(H3.out _).mono ?_;rintro e w1 ⟨rfl,rfl⟩;go_wp2_with fail;refine(H4.out _).mono ?_;rintro e w1 ⟨rfl,rfl⟩;go_wp2_with fail;refine(H5.out _).mono ?_;rintro e w1 ⟨rfl,hb⟩;go_wp2_with fail;refine(H1.out _).mono ?_;rintro e w1 ⟨rfl,rfl⟩;go_wp2_with fail;refine(H6.out _).mono ?_;rintro e w1 ⟨rfl,rfl⟩;go_wp2_with fail;go_ret;exact⟨rfl,hb⟩
 · by_cases hle:y.natAbs≤x.natAbs
   · have h5:=yGj x.natAbs y.natAbs yEn yEn yEn
     have h6:=yNj (x.natAbs-y.natAbs) (yIj (y:=x.natAbs) yEn yCn yEn) (decide (x<0));have h7:=zRj x.natAbs y.natAbs yEn yEn;have hv:sgn (decide (x<0)) (x.natAbs-y.natAbs)=x+y:=by
      by_cases h:x<0
      · have h':¬y<0:=fun h2=>hs ((yI0 (p:=x<0) yEn).trans (yI0 (p:=y<0) yEn).symm)
        rw[yI0 h];show-((x.natAbs-y.natAbs:Nat):Int)=x+y;omega
      · have h':y<0:=by
         rcases zT1 y 0 with h2|h2
         · exact h2
         · exact absurd ((yG0 (p:=x<0) yEn).trans (yG0 (p:=y<0) yEn).symm) hs
        rw[yG0 h];show((x.natAbs-y.natAbs:Nat):Int)=x+y;omega
     rw[hv]at h6;have hzz:¬xJa x.natAbs y.natAbs<0:=yPj hle;have H5:=zC h5;have H6:=zC h6;have H7:=zC h7;have e0:(decide (x<0)==decide (y<0))=false:=zT0.2 hs;clear h5 h6 h7 hv hx hy hs hle;generalize S x=s at*;generalize S y=t at*;generalize B (Lib.decDigits x.natAbs)=s1 at*;generalize B (Lib.decDigits y.natAbs)=t1 at*;generalize decide (x<0)=b at*;generalize decide (y<0)=c at*;generalize hz:xJa x.natAbs y.natAbs=z at*;go_in;go_wp2_with fail;refine(H1.out _).mono ?_;rintro e w1 ⟨rfl,rfl⟩;go_wp2_with fail;refine(H2.out _).mono ?_;rintro e w1 ⟨rfl,rfl⟩;go_wp2_with fail;refine(H3.out _).mono ?_;rintro e w1 ⟨rfl,rfl⟩;go_wp2_with fail;refine(H4.out _).mono ?_;rintro e w1 ⟨rfl,rfl⟩;go_wp2_with fail;refine(H7.out _).mono ?_;rintro e w2 ⟨rfl,hd⟩;have hb1:Below w.heap.size w w2:=hd.below;clear hd;go_wp2_with fail;refine(H3.out _).mono ?_;rintro e w1 ⟨rfl,rfl⟩;go_wp2_with fail;refine(H4.out _).mono ?_;rintro e w1 ⟨rfl,rfl⟩;go_wp2_with fail;refine(H5.out _).mono ?_;rintro e w3 ⟨rfl,hb⟩;have hb3:=hb1.trans (hb.mono hb1.size);go_wp2_with fail;refine(H1.out _).mono ?_;rintro e w1 ⟨rfl,rfl⟩;go_wp2_with fail;refine(H6.out _).mono ?_;rintro e w1 ⟨rfl,rfl⟩;go_wp2_with fail;go_ret;exact⟨rfl,hb3⟩
   · have h5:=yGj y.natAbs x.natAbs yEn yEn yEn
     have h6:=yNj (y.natAbs-x.natAbs) (yIj (y:=y.natAbs) yEn yCn yEn) (decide (y<0));have h7:=zRj x.natAbs y.natAbs yEn yEn;have hv:sgn (decide (y<0)) (y.natAbs-x.natAbs)=x+y:=by
      by_cases h:y<0
      · have h':¬x<0:=fun h2=>hs ((yI0 (p:=x<0) yEn).trans (yI0 (p:=y<0) yEn).symm)
        rw[yI0 h];show-((y.natAbs-x.natAbs:Nat):Int)=x+y;omega
      · have h':x<0:=by
         rcases zT1 x 0 with h2|h2
         · exact h2
         · exact absurd ((yG0 (p:=x<0) yEn).trans (yG0 (p:=y<0) yEn).symm) hs
        rw[yG0 h];show((y.natAbs-x.natAbs:Nat):Int)=x+y;omega
     rw[hv]at h6;have hzz:xJa x.natAbs y.natAbs<0:=by rw[zPj yEn];decide
     have H5:=zC h5;have H6:=zC h6;have H7:=zC h7;have e0:(decide (x<0)==decide (y<0))=false:=zT0.2 hs;clear h5 h6 h7 hv hx hy hs hle;generalize S x=s at*;generalize S y=t at*;generalize B (Lib.decDigits x.natAbs)=s1 at*;generalize B (Lib.decDigits y.natAbs)=t1 at*;generalize decide (x<0)=b at*;generalize decide (y<0)=c at*;generalize hz:xJa x.natAbs y.natAbs=z at*;go_in;go_wp2_with fail;refine(H1.out _).mono ?_;rintro e w1 ⟨rfl,rfl⟩;go_wp2_with fail;refine(H2.out _).mono ?_;rintro e w1 ⟨rfl,rfl⟩;go_wp2_with fail;refine(H3.out _).mono ?_;rintro e w1 ⟨rfl,rfl⟩;go_wp2_with fail;refine(H4.out _).mono ?_;rintro e w1 ⟨rfl,rfl⟩;go_wp2_with fail;refine(H7.out _).mono ?_;rintro e w2 ⟨rfl,hd⟩;have hb1:Below w.heap.size w w2:=hd.below;clear hd;go_wp2_with fail;refine(H4.out _).mono ?_;rintro e w1 ⟨rfl,rfl⟩;go_wp2_with fail;refine(H3.out _).mono ?_;rintro e w1 ⟨rfl,rfl⟩;go_wp2_with fail;refine(H5.out _).mono ?_;rintro e w3 ⟨rfl,hb⟩;have hb3:=hb1.trans (hb.mono hb1.size);go_wp2_with fail;refine(H2.out _).mono ?_;rintro e w1 ⟨rfl,rfl⟩;go_wp2_with fail;refine(H6.out _).mono ?_;rintro e w1 ⟨rfl,rfl⟩;go_wp2_with fail;go_ret;exact⟨rfl,hb3⟩
end
section
open Go.RowKit
theorem yRj (z:Int) (hz:Figs 4000 z) (w:World):Calls Tryz.prog 161 #[.string (S z)] w fun e w'=>e=.returned (.tuple #[.string (zG6 z),.int .i64 (zH6 z)])∧w=w':=by
 have h1:=yMj z hz;have hs:=xUi (Lib.decDigits z.natAbs);have H1:=zC h1;by_cases h:z.natAbs<lim
 · have hl:=(yAe z.natAbs).2 h
   have h2:¬(100:Int)<(B (Lib.decDigits z.natAbs)).size:=by omega
   have hr:zG6 z=S z:=by unfold zG6;rw[yA h]
   have he:zH6 z=0:=by unfold zH6;rw[yA h]
   rw[hr,he];clear h1 hs h hl hr he hz;generalize S z=s at*;generalize B (Lib.decDigits z.natAbs)=t at*;go_in;go_wp2_with fail;refine(H1.out _).mono ?_;rintro e w1 ⟨rfl,rfl⟩;go_wp2_with fail;go_ret2;exact⟨rfl,rfl⟩
 · have hl:¬(Lib.decDigits z.natAbs).length≤100:=fun h2=>h ((yAe z.natAbs).1 h2)
   have h2:(100:Int)<(B (Lib.decDigits z.natAbs)).size:=by omega
   have hr:zG6 z=⟨#[]⟩:=by unfold zG6;rw[zY h]
   have he:zH6 z=8:=by unfold zH6;rw[zY h]
   rw[hr,he];clear h1 hs h hl hr he hz;generalize S z=s at*;generalize B (Lib.decDigits z.natAbs)=t at*;go_in;go_wp2_with fail;refine(H1.out _).mono ?_;rintro e w1 ⟨rfl,rfl⟩;go_wp2_with fail;go_ret2;exact⟨rfl,rfl⟩
theorem ySj {s:ByteArray} {x:Int} (h:Is s (some x)):Figs 100 x:=(yAe _).2 h.2
def yTj (a:ByteArray) (v:Bool):Prop:=∀w,Calls Tryz.prog 110 #[.string a] w (yXe v w)
theorem yUj (x y:Int) (hx:Figs 100 x) (hy:Figs 100 y) (HM:yTj (S x) true) (HM':yTj (S y) true) (w:World):Calls Tryz.prog 129 #[.string (S x),.string (S y)] w (OpPost (x+y) w):=by
 have h1:=yQj x y (xN hx yCn) (xN hy yCn);have h2:=yRj (x+y) (by
  unfold Figs at*;exact yIj (y:=x.natAbs+y.natAbs) yEn yCn (xN (yHj yCn hx hy) yCn))
 have H1:=zC h1;have H2:=zC h2;have K1:=zC HM;have K2:=zC HM';unfold OpPost;clear h1 h2 hx hy HM HM';generalize zG6 (x+y)=r at*;generalize zH6 (x+y)=f at*;generalize S (x+y)=u at*;generalize S x=s at*;generalize S y=t at*;go_in;go_wp2_with fail;refine(K1.out _).mono ?_;rintro e w1 ⟨rfl,rfl⟩;go_wp2_with fail;refine(K2.out _).mono ?_;rintro e w1 ⟨rfl,rfl⟩;go_wp2_with fail;refine(H1.out _).mono ?_;rintro e w1 ⟨rfl,hb⟩;go_wp2_with fail;refine(H2.out _).mono ?_;rintro e w2 ⟨rfl,rfl⟩;go_wp2_with fail;go_ret2;exact⟨rfl,hb⟩
theorem yVj (s t:ByteArray) (a b:Bool) (h:(a&&b)=false) (HM:yTj s a) (HM':yTj t b) (w:World):Calls Tryz.prog 129 #[.string s,.string t] w (ArgNo w):=by
 have K1:=zC HM;have K2:=zC HM';clear HM HM';go_in;go_wp2_with fail;cases a
 · refine(K1.out _).mono ?_
   rintro e w1 ⟨rfl,rfl⟩;go_wp2_with fail;go_ret2;exact⟨rfl,zI _ _⟩
 · refine(K1.out _).mono ?_
   rintro e w1 ⟨rfl,rfl⟩;go_wp2_with fail;cases b
   · refine(K2.out _).mono ?_
     rintro e w1 ⟨rfl,rfl⟩;go_wp2_with fail;go_ret2;exact⟨rfl,zI _ _⟩
   · exact absurd h yCn
theorem yWj {l:List UInt8} (h:(yIe l).length<1∨100<(yIe l).length):yLe l=false:=by
 unfold yLe;rcases h with h|h
 · rw[yG0 yEn];rfl
 · rw[yG0 (p:=(yIe l).length≤100) yEn];simp
theorem yXj {l:List UInt8} (h:(yIe l).head?=some 48) (hl:l≠[48]):yLe l=false:=by
 unfold yLe;rw[h,yG0 hl];simp
theorem yYj {l:List UInt8} (h:yJe (yIe l)=false):yLe l=false:=by
 unfold yLe;rw[h];simp
theorem yZj {l:List UInt8} (h1:1≤(yIe l).length) (h2:(yIe l).length≤100) (h3:yJe (yIe l)=true) (h4:(yIe l).head?≠some 48):yLe l=true:=by
 unfold yLe;rw[yI0 h1,yI0 h2,h3,yI0 h4];rfl
theorem xAj {l:List UInt8} {a:Nat} (h:a<l.length):(l.drop a).head?=some l[a]:=by simp[List.head?_drop,h]
theorem xBj {l:List UInt8} (h:∀(k:Nat) (hk:k<l.length),48≤(l[k]).toNat∧(l[k]).toNat≤57):yJe l=true:=yKe.2 fun c hc=>by
 obtain⟨k,hk,rfl⟩:=List.getElem_of_mem hc;exact h k hk
theorem xCj {l:List UInt8} {k:Nat} (hk:k<l.length) (h:¬(48≤(l[k]).toNat∧(l[k]).toNat≤57)):yJe l=false:=by
 rw[Bool.eq_false_iff];intro h2;exact h (yKe.1 h2 _ (xH hk))
def xDj (s:ByteArray) (a i:Nat):Prop:=∀(k:Nat) (hk:k<s.size),a≤k→k<i→48≤(s[k]).toNat∧(s[k]).toNat≤57
theorem xEj {s:ByteArray} {a:Nat} (hf:yIe s.data.toList=s.data.toList.drop a) (h1:a<s.size) (h2:s.size-a≤100) (h3:(s[a]).toNat≠48) (hu:xDj s a s.size):yLe s.data.toList=true:=by
 have hl:s.data.toList.length=s.size:=by simp
 refine yZj (by rw[hf];simp;omega) (by rw[hf];simp;omega) ?_ ?_
 · rw[hf]
   refine xBj fun k hk=> ?_;rw[xB0,hl]at hk;have:=hu (a+k) yEn yEn yEn;simp only[List.getElem_drop];exact this
 · rw[hf,xAj yEn]
   intro h;have:s[a]=48:=zX1 h;exact h3 (by rw[this];rfl)
theorem xFj {s:ByteArray} {a:Nat} (hf:yIe s.data.toList=s.data.toList.drop a) (h1:a<s.size) (h3:(s[a]).toNat=48) (hz:s.data.toList≠[48]):yLe s.data.toList=false:=by
 have hl:s.data.toList.length=s.size:=by simp
 refine yXj ?_ hz;rw[hf,xAj yEn];have:s[a]=48:=yS2.1 h3;exact zH0 some this
theorem xGj {s:ByteArray} {a k:Nat} (hf:yIe s.data.toList=s.data.toList.drop a) (h1:a≤k) (hk:k<s.size) (h3:¬(48≤(s[k]).toNat∧(s[k]).toNat≤57)):yLe s.data.toList=false:=by
 have hl:s.data.toList.length=s.size:=by simp
 refine yYj ?_;rw[hf];refine xCj (k:=k-a) (by rw[xB0,hl];omega) ?_;have e:a+(k-a)=k:=by omega
 simp only[List.getElem_drop,e];exact h3
theorem xHj {s:ByteArray} {a:Nat} (hf:yIe s.data.toList=s.data.toList.drop a) (h:s.size-a<1∨100<s.size-a):yLe s.data.toList=false:=by
 refine yWj ?_;rw[hf,xB0,show s.data.toList.length=s.size by simp];exact h
theorem xIj (s:ByteArray) (hs:s.size≤maxLen):yTj s (yLe s.data.toList):=by
 intro w;unfold maxLen at hs;by_cases hz:s.data.toList=[48]
 · have e0:(s.toList==[48])=true:=by rw[xAe,hz];rfl
   have hm:=zC (show yLe s.data.toList=true by rw[hz];decide);clear hz;go_in;go_wp2_with fail;go_ret;exact⟨yYe hm.out.symm,rfl⟩
 have e0:(s.toList==[48])=false:=by rw[xAe];exact zT0.2 hz
 by_cases he:s.size=0
 · have hn:s.data.toList=[]:=yR1 (by simpa using he)
   have e1:s.toList.isEmpty=true:=by rw[xAe,hn];rfl
   have hm:=zC (show yLe s.data.toList=false by rw[hn];decide);clear hz hn;go_in;go_wp2_with fail;go_ret;exact⟨yYe hm.out.symm,rfl⟩
 have hp0:0<s.size:=by omega
 have hh:=yZe hp0;have e1:s.toList.isEmpty=false:=by
  rw[xAe];cases hl:s.data.toList with
  |nil=>rw[hl]at hh;cases hh
  |cons a r=>rfl
 by_cases h5:(s[0]).toNat=45
 · have e2:(((s[0]).toNat:Int)==45)=true:=by rw[h5];rfl
   have hf:yIe s.data.toList=s.data.toList.drop 1:=by
    cases hl:s.data.toList with
    |nil=>rw[hl]at hh;cases hh
    |cons c r=>
     rw[hl]at hh;have:c=45:=by
      have h6:c=s[0]:=by simpa using hh
      rw[h6];exact yS2.1 h5
     rw[this,yMe];rfl
   clear hh h5;by_cases t1:s.size<1+1
   · have hm:=zC (xHj hf (.inl yEn))
     have t1':(s.size:Int)-1<1:=by omega
     clear hf hz;go_in;go_wp2_with fail;go_ret;exact⟨yYe hm.out.symm,rfl⟩
   by_cases t2:100<s.size-1
   · have hm:=zC (xHj hf (.inr t2))
     have t1':¬(s.size:Int)-1<1:=by omega
     have t2':(100:Int)<(s.size:Int)-1:=by omega
     clear hf hz;go_in;go_wp2_with fail;go_ret;exact⟨yYe hm.out.symm,rfl⟩
   have hp:1<s.size:=by omega
   have t1':¬(s.size:Int)-1<1:=by omega
   have t2':¬(100:Int)<(s.size:Int)-1:=by omega
   have t5:s.size≤101:=by omega
   by_cases t3:(s[1]).toNat=48
   · have hm:=zC (xFj hf hp t3 hz)
     have t3':(((s[1]).toNat:Int)==48)=true:=by rw[t3];rfl
     clear hf hz t3;go_in;go_wp2_with fail;go_ret;exact⟨yYe hm.out.symm,rfl⟩
   have t3':(((s[1]).toNat:Int)==48)=false:=zT0.2 yEn;have HF:=zC (And.intro hf t3);clear hf t3 hz;go_in;go_wp2_with fail;go_loop [4] (fun i=>∃k:Nat,1≤k∧k≤s.size∧i=.int .i64 k∧xDj s 1 k) (fun i=>s.size-(intOf i).toNat)
   case atStart=>exact⟨1,zR _,by omega,rfl,fun k _ h1 h2=>by omega⟩
   case round=>
    obtain⟨k,hk0,hk,rfl,hu⟩:=hrel;have HU:=zC hu;clear hu;by_cases hlt:k<s.size
    · by_cases c1:(s[k]).toNat<48
      · have hm:=zC (xGj HF.out.1 hk0 hlt yEn)
        go_wp2_with fail;go_ret;exact⟨yYe hm.out.symm,rfl⟩
      · by_cases c2:57<(s[k]).toNat
        · have hm:=zC (xGj HF.out.1 hk0 hlt yEn)
          go_wp2_with fail;go_ret;exact⟨yYe hm.out.symm,rfl⟩
        · go_wp2_with fail
          go_round
          case rel=>
           refine⟨k+1,by omega,by omega,by go_num,fun j hj h1 h2=> ?_⟩;by_cases hjk:j=k
           · subst hjk;omega
           · exact HU.out j hj h1 yEn
          case measure=>simp[intOf];omega
    · have hke:k=s.size:=by omega
      have hm:=zC (xEj HF.out.1 hp yEn HF.out.2 (by rw[←hke];exact HU.out));go_wp2_with fail;go_ret;exact⟨yYe hm.out.symm,rfl⟩
 · have e2:(((s[0]).toNat:Int)==45)=false:=zT0.2 yEn
   have hf:yIe s.data.toList=s.data.toList.drop 0:=by
    rw[yS1];refine yNe ?_;rw[hh];intro h;have:s[0]=45:=by simpa using h
    exact h5 (by rw[this];rfl)
   clear hh h5;have t1:¬s.size<0+1:=by omega
   by_cases t2:100<s.size-0
   · have hm:=zC (xHj hf (.inr t2))
     have t1':¬(s.size:Int)-0<1:=by omega
     have t2':(100:Int)<(s.size:Int)-0:=by omega
     clear hf hz;go_in;go_wp2_with fail;go_ret;exact⟨yYe hm.out.symm,rfl⟩
   have hp:0<s.size:=by omega
   have t1':¬(s.size:Int)-0<1:=by omega
   have t2':¬(100:Int)<(s.size:Int)-0:=by omega
   have t5:s.size≤101:=by omega
   by_cases t3:(s[0]).toNat=48
   · have hm:=zC (xFj hf hp t3 hz)
     have t3':(((s[0]).toNat:Int)==48)=true:=by rw[t3];rfl
     clear hf hz t3;go_in;go_wp2_with fail;go_ret;exact⟨yYe hm.out.symm,rfl⟩
   have t3':(((s[0]).toNat:Int)==48)=false:=zT0.2 yEn;have HF:=zC (And.intro hf t3);clear hf t3 hz;go_in;go_wp2_with fail;go_loop [4] (fun i=>∃k:Nat,0≤k∧k≤s.size∧i=.int .i64 k∧xDj s 0 k) (fun i=>s.size-(intOf i).toNat)
   case atStart=>exact⟨0,zR _,by omega,rfl,fun k _ h1 h2=>by omega⟩
   case round=>
    obtain⟨k,hk0,hk,rfl,hu⟩:=hrel;have HU:=zC hu;clear hu;by_cases hlt:k<s.size
    · by_cases c1:(s[k]).toNat<48
      · have hm:=zC (xGj HF.out.1 hk0 hlt yEn)
        go_wp2_with fail;go_ret;exact⟨yYe hm.out.symm,rfl⟩
      · by_cases c2:57<(s[k]).toNat
        · have hm:=zC (xGj HF.out.1 hk0 hlt yEn)
          go_wp2_with fail;go_ret;exact⟨yYe hm.out.symm,rfl⟩
        · go_wp2_with fail
          go_round
          case rel=>
           refine⟨k+1,by omega,by omega,by go_num,fun j hj h1 h2=> ?_⟩;by_cases hjk:j=k
           · subst hjk;omega
           · exact HU.out j hj h1 yEn
          case measure=>simp[intOf];omega
    · have hke:k=s.size:=by omega
      have hm:=zC (xEj HF.out.1 hp yEn HF.out.2 (by rw[←hke];exact HU.out));go_wp2_with fail;go_ret;exact⟨yYe hm.out.symm,rfl⟩
theorem xJj {l:List UInt8} {i:Nat} (h:i<l.length):xEb (l.take (i+1))=xEb (l.take i)*10+((l[i]).toNat-48):=by
 rw[yE0 h,xGb]
theorem xKj (l:List UInt8) (i:Nat):xEb (l.take i)≤xEb l:=by
 have h:xEb l=xEb (l.take i++l.drop i):=by rw[yN1]
 rw[h,xHb];exact xN (yX2 _ (yH1 yCn)) (Nat.le_add_right _ _)
theorem xLj {l:List UInt8} (h:xFb l):xFb (l++[48]):=by
 intro c hc;rcases xF1.1 hc with hc|hc
 · exact h c hc
 · have:c=48:=by simpa using hc
   subst this;decide
theorem xMj (x y:Int) (hx:Figs 1000 x) (hy:Figs 1000 y) (hxy:(Lib.decDigits (x.natAbs*y.natAbs)).length≤3000) (w:World):Calls Tryz.prog 162 #[.string (S x),.string (S y)] w (yAj (S (x*y)) w):=by
 unfold Figs at hx hy;have h1:=yLj x;have h2:=yLj y;have h3:=yMj x zLn;have h4:=yMj y zLn;have h5:∀v,x.natAbs*v≤x.natAbs*y.natAbs→∀w,Calls Tryz.prog 186 #[.string (B (Lib.decDigits (x.natAbs*v))++⟨#[48]⟩)] w (xZi (x.natAbs*(v*10)) w):=by
  intro v hv w;have hl:=yIj hv yCn hxy;have h:=zAj (Lib.decDigits (x.natAbs*v)++[48]) (xLj (xUb _)) (by simp;unfold maxLen;omega) w;rw[←zYj,xGb,xTb]at h;rw[←zP2];exact h
 have h6:∀v,x.natAbs*v≤x.natAbs*y.natAbs→∀w,Calls Tryz.prog 183 #[.string (B (Lib.decDigits (x.natAbs*v))),.string (B (Lib.decDigits x.natAbs))] w (yAj (B (Lib.decDigits (x.natAbs*(v+1)))) w):=by
  intro v hv w;have hl:=yIj hv yCn hxy;exact yBj (x.natAbs*v) x.natAbs yEn yEn w
 have h7:=yNj (x.natAbs*y.natAbs) yEn (decide (x<0) != decide (y<0));have hv:sgn (decide (x<0) != decide (y<0)) (x.natAbs*y.natAbs)=x*y:=by
  have e:=yE1 x y;by_cases h:x<0
  · by_cases h':y<0
    · rw[yI0 h,yI0 h']
      show((x.natAbs*y.natAbs:Nat):Int)=x*y;have:=Int.mul_pos_of_neg_of_neg h h';rw[←e];omega
    · rw[yI0 h,yG0 h']
      show-((x.natAbs*y.natAbs:Nat):Int)=x*y;have:=Int.mul_nonpos_of_nonpos_of_nonneg (a:=x) (b:=y) yEn yEn;rw[←e];omega
  · by_cases h':y<0
    · rw[yG0 h,yI0 h']
      show-((x.natAbs*y.natAbs:Nat):Int)=x*y;have:=Int.mul_nonpos_of_nonneg_of_nonpos (a:=x) (b:=y) yEn yEn;rw[←e];omega
    · rw[yG0 h,yG0 h']
      show((x.natAbs*y.natAbs:Nat):Int)=x*y;have:=zC2 (a:=x) (b:=y) yEn yEn;rw[←e];omega
 rw[hv]at h7;have h8:∀v,x.natAbs*v≤x.natAbs*y.natAbs→(B (Lib.decDigits (x.natAbs*v))).size≤3000:=fun v hv=>by
  rw[xUi];exact yIj hv yCn hxy
 have hdig:∀(k:Nat) (hk:k<(B (Lib.decDigits y.natAbs)).size),48≤((B (Lib.decDigits y.natAbs))[k]).toNat∧((B (Lib.decDigits y.natAbs))[k]).toNat≤57:=fun k hk=>by
  have hk':k<(Lib.decDigits y.natAbs).length:=by rw[←xUi];exact hk
  exact xUb y.natAbs _ (xH hk')
 obtain⟨V,hV⟩:∃V:Nat→Nat,V=fun i=>xEb ((Lib.decDigits y.natAbs).take i):=⟨_,rfl⟩
 have hV0:V 0=0:=by rw[hV];rfl
 have hVs:∀(k:Nat) (hk:k<(B (Lib.decDigits y.natAbs)).size),V (k+1)=V k*10+(((B (Lib.decDigits y.natAbs))[k]).toNat-48):=fun k hk=>by
  have hk':k<(Lib.decDigits y.natAbs).length:=by rw[←xUi];exact hk
  rw[hV];exact xJj hk'
 have hVl:∀k,V k≤y.natAbs:=fun k=>by
  rw[hV];have:=xKj (Lib.decDigits y.natAbs) k;rwa [xTb]at this
 have hVe:V (B (Lib.decDigits y.natAbs)).size=y.natAbs:=by
  rw[hV,xUi];show xEb ((Lib.decDigits y.natAbs).take (Lib.decDigits y.natAbs).length)=y.natAbs;rw[zM2,xTb]
 obtain⟨D,hD⟩:∃D:Nat→ByteArray,D=fun v=>B (Lib.decDigits (x.natAbs*v)):=⟨_,rfl⟩
 have hD0:(⟨#[48]⟩:ByteArray)=D 0:=by
  rw[hD];show _=B (Lib.decDigits (x.natAbs*0));rw[yQ2,xQb yCn];rfl
 have k5:∀v,v≤y.natAbs→∀w,Calls Tryz.prog 186 #[.string (D v++⟨#[48]⟩)] w fun e w'=>e=.returned (.string (D (v*10)))∧w=w':=by
  rw[hD];exact fun v hv w=>h5 v (zR2 _ hv) w
 have k6:∀v,v≤y.natAbs→∀w,Calls Tryz.prog 183 #[.string (D v),.string (B (Lib.decDigits x.natAbs))] w (yAj (D (v+1)) w):=by
  rw[hD];exact fun v hv w=>h6 v (zR2 _ hv) w
 have k7:∀w,Calls Tryz.prog 176 #[.string (D y.natAbs),.bool (decide (x<0) != decide (y<0))] w (zEj (x*y) w):=by
  rw[hD];exact h7
 have k8:∀v,v≤y.natAbs→(D v).size≤3000:=by
  rw[hD];exact fun v hv=>h8 v (zR2 _ hv)
 have ht:(B (Lib.decDigits y.natAbs)).size≤1000:=by rw[xUi];exact hy
 have H1:=zC h1;have H2:=zC h2;have H3:=zC h3;have H4:=zC h4;have H5:=zC k5;have H6:=zC k6;have H7:=zC k7;have H8:=zC k8;have HD0:=zC hD0;have HV:=zC (And.intro hV0 (And.intro hVl hVe));clear h1 h2 h3 h4 h5 h6 h7 h8 hv hD hD0 k5 k6 k7 k8 hV hV0 hVl hVe hx hy hxy;generalize y.natAbs=Y at*;generalize B (Lib.decDigits Y)=t at*;generalize B (Lib.decDigits x.natAbs)=s1 at*;generalize S x=s at*;generalize S y=r at*;have HG:=zC (And.intro hdig hVs);clear hdig hVs;go_in;go_wp2_with fail;refine(H4.out _).mono ?_;rintro e w1 ⟨rfl,rfl⟩;go_wp2_with fail;generalize hbx:decide (x<0)=bx at*;generalize hby:decide (y<0)=by' at*;go_loopw [5,7] (fun sv iv wr=>∃i:Nat,i≤t.size∧iv=.int .i64 i∧sv=.string (D (V i))∧Below w.heap.size w wr) (fun _ iv _=>t.size-(intOf iv).toNat)
 case atStart=>exact⟨0,xJ _,rfl,zH0 Value.string (by rw[HV.out.1];exact HD0.out),zI _ _⟩
 case round=>
  obtain⟨i,hi,rfl,rfl,hb⟩:=hrel;by_cases hlt:i<t.size
  · have g1:=HG.out.1 i hlt
    have g3:=H8.out _ (HV.out.2.1 i);obtain⟨m,hm⟩:∃m:Nat,m=(t[i]).toNat-48:=⟨_,rfl⟩
    have hmi:((t[i]).toNat:Int)-48=m:=by omega
    have hm9:m≤9:=by omega
    have HM:=zC hm;obtain⟨v,hv⟩:∃v,v=V i:=⟨_,rfl⟩
    rw[←hv]at g3 ⊢;have HVI:=zC hv;have K5:=zC (H5.out v (by rw[hv];exact HV.out.2.1 i));clear hm hv;go_wp2_with fail;refine(K5.out _).mono ?_;rintro e w2 ⟨rfl,rfl⟩;go_wp2_with fail;obtain⟨wo,hwo⟩:∃wo:World,wo=wr:=⟨_,rfl⟩
    go_loopw [5,8] (fun sv nv wq=>∃n:Nat,n≤m∧nv=.int .i64 n∧sv=.string (D (v*10+n))∧Below w.heap.size w wq) (fun _ nv _=>m-(intOf nv).toNat)
    case atStart=>exact⟨0,xJ _,rfl,rfl,hb⟩
    case round=>
     obtain⟨n,hn,rfl,rfl,hb2⟩:=hrel;by_cases hnm:n<m
     · have hnn:((n:Int)<m):=by omega
       have hle:v*10+n≤Y:=by
        have e1:=HG.out.2 i hlt;have e2:=HV.out.2.1 (i+1);have e3:=HM.out;have e4:=HVI.out;rw[e1,←e4,←e3]at e2;omega
       have K6:=zC (H6.out _ hle);clear hle;go_wp2_with fail;refine(H3.out _).mono ?_;rintro e w3 ⟨rfl,rfl⟩;go_wp2_with fail;refine(K6.out _).mono ?_;rintro e w4 ⟨rfl,hb3⟩;have hb4:=hb2.trans (hb3.mono hb2.size);go_wp2_with fail;go_roundw
       case rel=>exact⟨n+1,by omega,by go_num,rfl,hb4⟩
       case measure=>simp[intOf];omega
     · have hnn:¬((n:Int)<m):=by omega
       have hne:n=m:=by omega
       have hnext:v*10+n=V (i+1):=by
        have e1:=HG.out.2 i hlt;have e3:=HM.out;have e4:=HVI.out;rw[e1,←e4,←e3,hne]
       have HN:=zC hnext;clear hnext;go_wp2_with fail;go_roundw
       case rel=>exact⟨i+1,by omega,by go_num,zH0 Value.string (by rw[HN.out]),hb2⟩
       case measure=>simp[intOf];omega
  · have hie:i=t.size:=by omega
    have hD:D (V i)=D Y:=by rw[hie,HV.out.2.2]
    rw[hD];clear hD;go_wp2_with fail;refine(H1.out _).mono ?_;rintro e w3 ⟨rfl,rfl⟩;go_wp2_with fail;refine(H2.out _).mono ?_;rintro e w3 ⟨rfl,rfl⟩;go_wp2_with fail;refine(H7.out _).mono ?_;rintro e w3 ⟨rfl,rfl⟩;go_wp2_with fail;go_ret;exact⟨rfl,hb⟩
theorem xNj (x y:Int) (hx:Figs 100 x) (hy:Figs 100 y) (HM:yTj (S x) true) (HM':yTj (S y) true) (w:World):Calls Tryz.prog 130 #[.string (S x),.string (S y)] w (OpPost (x-y) w):=by
 have h0:=yOj y (xN hy yCn);have h1:=yQj x (-y) (xN hx yCn) (by unfold Figs at*;rw[xO2];exact xN hy yCn);rw[←Int.sub_eq_add_neg]at h1;have h2:=yRj (x-y) (by
  unfold Figs at*;exact yIj (y:=x.natAbs+y.natAbs) yEn yCn (xN (yHj yCn hx hy) yCn))
 have H0:=zC h0;have H1:=zC h1;have H2:=zC h2;have K1:=zC HM;have K2:=zC HM';unfold OpPost;clear h0 h1 h2 hx hy HM HM';generalize zG6 (x-y)=r at*;generalize zH6 (x-y)=f at*;go_in;go_wp2_with fail;refine(K1.out _).mono ?_;rintro e w1 ⟨rfl,rfl⟩;go_wp2_with fail;refine(K2.out _).mono ?_;rintro e w1 ⟨rfl,rfl⟩;go_wp2_with fail;refine(H0.out _).mono ?_;rintro e w1 ⟨rfl,rfl⟩;go_wp2_with fail;refine(H1.out _).mono ?_;rintro e w1 ⟨rfl,hb⟩;go_wp2_with fail;refine(H2.out _).mono ?_;rintro e w2 ⟨rfl,rfl⟩;go_wp2_with fail;go_ret2;exact⟨rfl,hb⟩
theorem xOj (s t:ByteArray) (a b:Bool) (h:(a&&b)=false) (HM:yTj s a) (HM':yTj t b) (w:World):Calls Tryz.prog 130 #[.string s,.string t] w (ArgNo w):=by
 have K1:=zC HM;have K2:=zC HM';clear HM HM';go_in;go_wp2_with fail;cases a
 · refine(K1.out _).mono ?_
   rintro e w1 ⟨rfl,rfl⟩;go_wp2_with fail;go_ret2;exact⟨rfl,zI _ _⟩
 · refine(K1.out _).mono ?_
   rintro e w1 ⟨rfl,rfl⟩;go_wp2_with fail;cases b
   · refine(K2.out _).mono ?_
     rintro e w1 ⟨rfl,rfl⟩;go_wp2_with fail;go_ret2;exact⟨rfl,zI _ _⟩
   · exact absurd h yCn
theorem xPj (x y:Int) (hx:Figs 100 x) (hy:Figs 100 y) (HM:yTj (S x) true) (HM':yTj (S y) true) (w:World):Calls Tryz.prog 131 #[.string (S x),.string (S y)] w (OpPost (x*y) w):=by
 have hm:(Lib.decDigits (x.natAbs*y.natAbs)).length≤200:=by
  unfold Figs at*;refine(zAc yCn).2 ?_;have a1:=(zAc yCn).1 hx;have a2:=(zAc yCn).1 hy;rw[show(200:Nat)=100+100 from rfl,yF1];exact yG1 a1 (xT a2) (yH1 yCn)
 have h1:=xMj x y (xN hx yCn) (xN hy yCn) (xN hm yCn);have h2:=yRj (x*y) (by unfold Figs;rw[yE1];exact xN hm yCn);have H1:=zC h1;have H2:=zC h2;have K1:=zC HM;have K2:=zC HM';unfold OpPost;clear hm h1 h2 hx hy HM HM';generalize zG6 (x*y)=r at*;generalize zH6 (x*y)=f at*;go_in;go_wp2_with fail;refine(K1.out _).mono ?_;rintro e w1 ⟨rfl,rfl⟩;go_wp2_with fail;refine(K2.out _).mono ?_;rintro e w1 ⟨rfl,rfl⟩;go_wp2_with fail;refine(H1.out _).mono ?_;rintro e w1 ⟨rfl,hb⟩;go_wp2_with fail;refine(H2.out _).mono ?_;rintro e w2 ⟨rfl,rfl⟩;go_wp2_with fail;go_ret2;exact⟨rfl,hb⟩
theorem xQj (s t:ByteArray) (a b:Bool) (h:(a&&b)=false) (HM:yTj s a) (HM':yTj t b) (w:World):Calls Tryz.prog 131 #[.string s,.string t] w (ArgNo w):=by
 have K1:=zC HM;have K2:=zC HM';clear HM HM';go_in;go_wp2_with fail;cases a
 · refine(K1.out _).mono ?_
   rintro e w1 ⟨rfl,rfl⟩;go_wp2_with fail;go_ret2;exact⟨rfl,zI _ _⟩
 · refine(K1.out _).mono ?_
   rintro e w1 ⟨rfl,rfl⟩;go_wp2_with fail;cases b
   · refine(K2.out _).mono ?_
     rintro e w1 ⟨rfl,rfl⟩;go_wp2_with fail;go_ret2;exact⟨rfl,zI _ _⟩
   · exact absurd h yCn
theorem xRj {s:ByteArray} {o:Option Int} (h:Is s o):yTj s o.isSome:=by
 rw[←h.may];exact xIj s h.size
theorem xSj {s t:ByteArray} {o p:Option Int} (w:World) (hs:Is s o) (ht:Is t p):Calls Tryz.prog 129 #[.string s,.string t] w (yB6 (op (fun x y=>x+y) o p) (opE (fun x y=>x+y) o p) w):=by
 have m1:=xRj hs;have m2:=xRj ht;cases hn:(o.isSome&&p.isSome)
 · exact(yVj s t _ _ hn m1 m2 w).mono fun e w' h=>ArgNo.opt hn h
 · cases o<;>cases p<;>simp at hn
   have f1:=ySj hs;have f2:=ySj ht;rw[hs.1]at m1 ⊢;rw[ht.1]at m2 ⊢;exact(yUj _ _ f1 f2 m1 m2 w).mono fun e w' h=>OpPost.opt (f:=fun x y=>x+y) h
theorem xTj {s t:ByteArray} {o p:Option Int} (w:World) (hs:Is s o) (ht:Is t p):Calls Tryz.prog 130 #[.string s,.string t] w (yB6 (op (fun x y=>x-y) o p) (opE (fun x y=>x-y) o p) w):=by
 have m1:=xRj hs;have m2:=xRj ht;cases hn:(o.isSome&&p.isSome)
 · exact(xOj s t _ _ hn m1 m2 w).mono fun e w' h=>ArgNo.opt hn h
 · cases o<;>cases p<;>simp at hn
   have f1:=ySj hs;have f2:=ySj ht;rw[hs.1]at m1 ⊢;rw[ht.1]at m2 ⊢;exact(xNj _ _ f1 f2 m1 m2 w).mono fun e w' h=>OpPost.opt (f:=fun x y=>x-y) h
theorem xUj {s t:ByteArray} {o p:Option Int} (w:World) (hs:Is s o) (ht:Is t p):Calls Tryz.prog 131 #[.string s,.string t] w (yB6 (op (fun x y=>x*y) o p) (opE (fun x y=>x*y) o p) w):=by
 have m1:=xRj hs;have m2:=xRj ht;cases hn:(o.isSome&&p.isSome)
 · exact(xQj s t _ _ hn m1 m2 w).mono fun e w' h=>ArgNo.opt hn h
 · cases o<;>cases p<;>simp at hn
   have f1:=ySj hs;have f2:=ySj ht;rw[hs.1]at m1 ⊢;rw[ht.1]at m2 ⊢;exact(xPj _ _ f1 f2 m1 m2 w).mono fun e w' h=>OpPost.opt (f:=fun x y=>x*y) h
end
end Go.Proofs.YtcfbjdplhgdpfaaGreatDoor

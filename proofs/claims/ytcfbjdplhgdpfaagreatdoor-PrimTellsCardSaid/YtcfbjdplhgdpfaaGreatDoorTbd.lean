import Derived.Test.YtcfbjdplhgdpfaaGreatDoorTbc
set_option maxHeartbeats 1600000
set_option maxRecDepth 10000
namespace Go.Proofs.YtcfbjdplhgdpfaaGreatDoor
set_option linter.unusedVariables false
set_option linter.unusedSimpArgs false
abbrev zB2:=@Nat.succ_mul
section
section
open Go.RowKit
theorem xVj {l:List UInt8} {i:Nat} (h:i<l.length):(B l).extract i (i+1)=B [l[i]]:=by
 apply xVi;rw[zJ7,xTi,xTi,yE0 h,yO1 zZn];simp
def xWj (q r:Nat) (w:World) (e:Ending) (w':World):Prop:=e=.returned (.tuple #[.string (B (Lib.decDigits q)),.string (B (Lib.decDigits r))])∧Below w.heap.size w w'
theorem xXj (x y:Nat) (hy0:0<y) (hx:(Lib.decDigits x).length≤200) (hy:(Lib.decDigits y).length≤200) (w:World):
 Calls Tryz.prog 187 #[.string (B (Lib.decDigits x)),.string (B (Lib.decDigits y))] w (xWj (x/y) (x%y) w):=by
 have hlen:∀r,r<y→(Lib.decDigits r).length≤200:=fun r hr=>yIj (y:=y) yEn yCn hy;have hlen2:∀z,z<y*10→(Lib.decDigits z).length≤201:=fun z hz=>by
  refine(zAc yCn).2 ?_;have:=(zAc yCn).1 hy;rw[show(201:Nat)=200+1 from rfl,yB2];generalize 10^200=t at*;omega
 have h5:∀(i:Nat) (hi:i<(Lib.decDigits x).length) (r:Nat),r<y→∀w,Calls Tryz.prog 186 #[.string (B (Lib.decDigits r)++(B (Lib.decDigits x)).extract i (i+1))] w (xZi (r*10+(((Lib.decDigits x)[i]).toNat-48)) w):=by
  intro i hi r hr w;rw[xVj hi,zYj];have h:=zAj (Lib.decDigits r++[(Lib.decDigits x)[i]]) (by
   intro c hc;rcases xF1.1 hc with hc|hc
   · exact xUb r c hc
   · have:c=(Lib.decDigits x)[i]:=by simpa using hc
     rw[this];exact xUb x _ (xH hi)) (by have:=hlen r hr;simp;unfold maxLen;omega) w
  rwa [xGb,xTb]at h
 have h6:∀z,z<y*10→∀w,Calls Tryz.prog 184 #[.string (B (Lib.decDigits z)),.string (B (Lib.decDigits y))] w (zOj (xJa z y) w):=fun z hz w=>zRj z y (xN (hlen2 z hz) yCn) (xN hy yCn) w;have h7:∀z,z<y*10→y≤z→∀w,Calls Tryz.prog 185 #[.string (B (Lib.decDigits z)),.string (B (Lib.decDigits y))] w (yAj (B (Lib.decDigits (z-y))) w):=fun z hz hle w=>yGj z y hle (xN (hlen2 z hz) yCn) (xN hy yCn) w;have h8:∀r,r<y→(B (Lib.decDigits r)).size≤200:=fun r hr=>by rw[xUi];exact hlen r hr
 have hdd:∀(k:Nat) (hk:k<(Lib.decDigits x).length),((Lib.decDigits x)[k]).toNat-48≤9:=fun k hk=>by
  have:=xUb x _ (xH hk);omega
 obtain⟨V,hV⟩:∃V:Nat→Nat,V=fun i=>xEb ((Lib.decDigits x).take i):=⟨_,rfl⟩
 have hV0:V 0=0:=by rw[hV];rfl
 have hVs:∀(k:Nat) (hk:k<(Lib.decDigits x).length),V (k+1)=V k*10+(((Lib.decDigits x)[k]).toNat-48):=fun k hk=>by
  rw[hV];exact xJj hk
 have hVe:V (Lib.decDigits x).length=x:=by
  rw[hV];show xEb ((Lib.decDigits x).take (Lib.decDigits x).length)=x;rw[List.take_length,xTb]
 obtain⟨g,hg⟩:∃g:Nat→Nat,∀(k:Nat) (hk:k<(Lib.decDigits x).length),g k=((Lib.decDigits x)[k]).toNat-48:=⟨fun k=>if hk:k<(Lib.decDigits x).length then((Lib.decDigits x)[k]).toNat-48 else 0,fun k hk=>dif_pos hk⟩
 have hts:=xUi (Lib.decDigits x);obtain⟨D,hD⟩:∃D:Nat→ByteArray,D=fun v=>B (Lib.decDigits v):=⟨_,rfl⟩
 have hD0:(⟨#[48]⟩:ByteArray)=D 0:=by
  rw[hD];show _=B (Lib.decDigits 0);rw[xQb yCn];rfl
 have k5:∀(i:Nat) (hi:i<(B (Lib.decDigits x)).size) (r:Nat),r<y→∀w,Calls Tryz.prog 186 #[.string (D r++(B (Lib.decDigits x)).extract i (i+1))] w fun e w'=>e=.returned (.string (D (r*10+g i)))∧w=w':=by
  rw[hD];intro i hi r hr w
  have:=h5 i yEn r hr w;rw[←hg i yEn]at this;exact this
 have k6:∀z,z<y*10→∀w,Calls Tryz.prog 184 #[.string (D z),.string (D y)] w (zOj (xJa z y) w):=by rw[hD];exact h6
 have k7:∀z,z<y*10→y≤z→∀w,Calls Tryz.prog 185 #[.string (D z),.string (D y)] w (yAj (D (z-y)) w):=by rw[hD];exact h7
 have k8:∀r,r<y→(D r).size≤200:=by rw[hD];exact h8
 have kV:∀k,k<(B (Lib.decDigits x)).size→V (k+1)=V k*10+g k∧g k≤9:=fun k hk=>by
  rw[hg k yEn];exact⟨hVs k yEn,hdd k yEn⟩
 have kVe:V (B (Lib.decDigits x)).size=x:=by rw[hts];exact hVe
 have ht:(B (Lib.decDigits x)).size≤200:=by omega
 have hDy:B (Lib.decDigits y)=D y:=by rw[hD]
 unfold xWj;rw[hDy,show B (Lib.decDigits (x/y))=D (x/y)by rw[hD],show B (Lib.decDigits (x%y))=D (x%y)by rw[hD]];have kB:∀(l:List UInt8),xFb l→l.length≤maxLen→∀w,Calls Tryz.prog 186 #[.string (B l)] w fun e w'=>e=.returned (.string (D (xEb l)))∧w=w':=by rw[hD];exact zAj
 have HB:=zC kB;have H5:=zC k5;have H6:=zC k6;have H7:=zC k7;have H8:=zC k8;have HD0:=zC hD0;have HV:=zC (And.intro hV0 (And.intro kV kVe));have HY:=zC hy0;clear h5 h6 h7 h8 hdd hV hV0 hVs hVe hg hts hD hD0 k5 k6 k7 k8 kV kVe hDy kB hlen hlen2 hx hy hy0;generalize B (Lib.decDigits x)=t at*;go_in;go_wp2_with fail;go_loopw [6,7,8] (fun qv rv iv wr=>∃(i r:Nat) (Q:List UInt8),i≤t.size∧iv=.int .i64 i∧rv=.string (D r)∧qv=.string (B Q)∧xFb Q∧Q.length=i∧V i=y*xEb Q+r∧r<y∧Below w.heap.size w wr) (fun _ _ iv _=>t.size-(intOf iv).toNat)
 case atStart=>exact⟨0,0,[],xJ _,rfl,zH0 Value.string HD0.out,rfl,xZm,rfl,(by rw[HV.out.1];simp[xEb]),HY.out,zI _ _⟩
 case round=>
  obtain⟨i,r,Q,hi,rfl,rfl,rfl,hQ,hQl,hQv,hr,hb⟩:=hrel;have HQ:=zC (And.intro hQ (And.intro hQl hQv));have q1:=xUi Q;have q2:(B Q).size≤200:=by omega
  clear hQ hQl hQv q1;by_cases hlt:i<t.size
  · have K5:=zC (H5.out i hlt r hr)
    have r8:=H8.out r hr;have e8:(t.extract i (i+1)).size=1:=by simp;omega
    go_wp2_with fail;refine(K5.out _).mono ?_;rintro e w2 ⟨rfl,rfl⟩;go_wp2_with fail;obtain⟨z,hz⟩:∃z,z=r*10+g i:=⟨_,rfl⟩
    have hz10:z<y*10:=by have:=(HV.out.2.1 i hlt).2;omega
    rw[←hz];have HZ:=zC hz;clear hz;go_loopw [7,9] (fun rv nv wq=>∃n:Nat,n*y≤z∧n≤9∧nv=.int .i64 n∧rv=.string (D (z-n*y))∧Below w.heap.size w wq) (fun _ nv _=>10-(intOf nv).toNat)
    case atStart=>exact⟨0,by omega,by decide,rfl,by rw[Nat.zero_mul,xE1],hb⟩
    case round=>
     obtain⟨n,hn,hn9,rfl,rfl,hb2⟩:=hrel;have K6:=zC (H6.out (z-n*y) yEn);obtain⟨cv,hcv⟩:∃cv,cv=xJa (z-n*y) y:=⟨_,rfl⟩
     rw[←hcv]at K6;by_cases hle:y≤z-n*y
     · have hc0:¬cv<0:=by rw[hcv];exact yPj hle
       have K7:=zC (H7.out (z-n*y) yEn hle);have hn1:(n+1)*y=n*y+y:=zB2 n y;have hn2:n+1≤9:=by
        rcases zM1 n 9 with h|h
        · omega
        · have:n=9:=by omega
          subst this;omega
       have HN:=zC (And.intro hn1 (show z-n*y-y=z-(n+1)*y by omega));have hn3:(n+1)*y≤z:=by omega
       have HN3:=zC hn3;clear hcv hn1 hn3 hle hn;go_wp2_with fail;refine(K6.out _).mono ?_;rintro e w3 ⟨rfl,hd⟩;have hb3:Below w.heap.size w w3:=hb2.trans hd.below;clear hd;go_wp2_with fail;refine(K7.out _).mono ?_;rintro e w4 ⟨rfl,hb4⟩;have hb5:=hb3.trans (hb4.mono hb3.size);go_wp2_with fail;go_roundw
       case rel=>exact⟨n+1,HN3.out,hn2,by go_num,by rw[HN.out.2],hb5⟩
       case measure=>simp[intOf];omega
     · have hc0:cv<0:=by rw[hcv,zPj yEn];decide
       have hzb:(48+(n:Int))=((zTj n).toNat:Int):=by rw[zUj yEn];omega
       have HL:=zC hle;have HN:=zC hn;clear hcv hle hn;go_wp2_with fail;refine(K6.out _).mono ?_;rintro e w3 ⟨rfl,hd⟩;have hb3:Below w.heap.size w w3:=hb2.trans hd.below;clear hd;have hcv:=zZj w3 (zTj n) _ hzb;have hd1:(B [zTj n]).size=1:=xUi _;have HC:=zC (zYj Q [zTj n]);clear hzb;go_wp2_with fail;refine⟨⟨i+1,z-n*y,Q++[zTj n],by omega,by go_num,rfl,zH0 Value.string HC.out,?_,by simp[HQ.out.2.1],?_,by have:=HL.out;omega,hb3.alloc hb3.size _⟩,by simp[intOf];omega⟩
       · intro c hc
         rcases xF1.1 hc with hc|hc
         · exact HQ.out.1 c hc
         · have:c=zTj n:=by simpa using hc
           rw[this];have:=zUj (d:=n) yEn;omega
       · have e1:=(HV.out.2.1 i hlt).1
         have e2:=HQ.out.2.2;have e3:=HZ.out;have e4:=HN.out;rw[e1,e2,xGb,zUj yEn,xI1];have e5:y*(xEb Q*10)=y*xEb Q*10:=(zP2 ..).symm;have e6:y*(48+n-48)=n*y:=by rw[show 48+n-48=n by omega,yP1]
         omega
  · have hie:i=t.size:=by omega
    have e1:x=y*xEb Q+r:=by rw[←HQ.out.2.2,hie,HV.out.2.2]
    have e2:x/y=xEb Q:=by rw[e1,Nat.mul_add_div HY.out,xX1 hr,xB]
    have e3:x%y=r:=by rw[e1,Nat.mul_add_mod,xB1 hr]
    have K:=zC (HB.out Q HQ.out.1 (by rw[HQ.out.2.1];unfold maxLen;omega));have HE:=zC (And.intro e2 e3);clear e1 e2 e3;go_wp2_with fail;refine(K.out _).mono ?_;rintro e w2 ⟨rfl,rfl⟩;go_wp2_with fail;go_ret2;exact⟨by rw[HE.out.1,HE.out.2];rfl,hb⟩
theorem xYj {x y:Int} (hy:y≠0):
 (decide (x<0)=decide (y<0)→fq x y=((x.natAbs/y.natAbs:Nat):Int))∧
 (decide (x<0)≠decide (y<0)→fq x y=if x.natAbs%y.natAbs=0 then-((x.natAbs/y.natAbs:Nat):Int)else-((x.natAbs/y.natAbs+1:Nat):Int)):=by
 have hp:0<y.natAbs:=by omega
 have k1:=xH1 x.natAbs y.natAbs;have k2:=xD1 x.natAbs hp;generalize x.natAbs/y.natAbs=q at*;generalize x.natAbs%y.natAbs=r at*;have k3:(x.natAbs:Int)=(y.natAbs:Int)*(q:Int)+(r:Int):=by
  rw[←xH0,←xZ1,k1]
 have kx:(x<0∧(x.natAbs:Int)= -x)∨(0≤x∧(x.natAbs:Int)=x):=by omega
 have ky:(y<0∧(y.natAbs:Int)= -y)∨(0<y∧(y.natAbs:Int)=y):=by omega
 have k4:(r:Int)<(y.natAbs:Int):=by omega
 have k5:0≤(r:Int):=yU2 r;constructor
 · intro hs
   rcases kx with⟨hx,ex⟩|⟨hx,ex⟩<;>rcases ky with⟨hyy,ey⟩|⟨hyy,ey⟩
   · rw[ex,ey,xK2]at k3
     rw[ey]at k4;exact(xPf (r:= -(r:Int)) hy yEn yEn yEn).1
   · exact absurd hs (by rw[yI0 hx,yG0 yEn];decide)
   · exact absurd hs (by rw[yG0 yEn,yI0 hyy];decide)
   · rw[ex,ey]at k3
     rw[ey]at k4;exact(xPf (r:=(r:Int)) hy yEn yEn yEn).1
 · intro hs
   by_cases h0:r=0
   · rw[yA h0]
     rcases kx with⟨hx,ex⟩|⟨hx,ex⟩<;>rcases ky with⟨hyy,ey⟩|⟨hyy,ey⟩
     · exact absurd (by rw[yI0 hx,yI0 hyy]) hs
     · rw[ex,ey]at k3
       exact(xPf (r:=0) hy (by rw[Int.mul_neg];omega) yEn yEn).1
     · rw[ex,ey,xK2]at k3
       exact(xPf (r:=0) hy (by rw[Int.mul_neg];omega) yEn yEn).1
     · exact absurd (by rw[yG0 yEn,yG0 yEn]) hs
   · rw[zY h0,xZ1,Int.natCast_one]
     have e:∀z:Int,z* -((q:Int)+1)= -(z*q)-z:=fun z=>by rw[Int.mul_neg,Int.mul_add,Int.mul_one];omega
     rcases kx with⟨hx,ex⟩|⟨hx,ex⟩<;>rcases ky with⟨hyy,ey⟩|⟨hyy,ey⟩
     · exact absurd (by rw[yI0 hx,yI0 hyy]) hs
     · rw[ex,ey]at k3
       rw[ey]at k4;exact(xPf (r:=y-r) hy (by rw[e];omega) yEn yEn).1
     · rw[ex,ey,xK2]at k3
       rw[ey]at k4;exact(xPf (r:=y+r) hy (by rw[e];omega) yEn yEn).1
     · exact absurd (by rw[yG0 yEn,yG0 yEn]) hs
theorem xZj (n:Nat):B (Lib.decDigits n)=S (n:Int):=(zBj n).symm
theorem zAk (x y:Int) (hy0:y≠0) (hx:Figs 100 x) (hy:Figs 100 y) (w:World):Calls Tryz.prog 163 #[.string (S x),.string (S y)] w (yAj (S (fq x y)) w):=by
 have hf:=@xYj x y hy0;unfold Figs at hx hy;have h1:=yLj x;have h2:=yLj y;have h3:=yMj x zLn;have h4:=yMj y zLn;have h5:=xXj x.natAbs y.natAbs yEn yEn yEn;have hql:(Lib.decDigits (x.natAbs/y.natAbs)).length≤100:=yIj (Nat.div_le_self _ _) yCn hx;have h6:=yBj (x.natAbs/y.natAbs) 1 yEn (by rw[xQb yCn];decide);have h1b:B (Lib.decDigits 1)=⟨#[49]⟩:=by rw[xQb yCn];rfl
 rw[h1b]at h6;have hql1:(Lib.decDigits (x.natAbs/y.natAbs+1)).length≤101:=yHj yCn hql (by rw[xQb yCn];decide);have h7:=yNj (x.natAbs/y.natAbs) yEn true;have h8:=yNj (x.natAbs/y.natAbs+1) yEn true;unfold xWj at h5;have H1:=zC h1;have H2:=zC h2;have H3:=zC h3;have H4:=zC h4;by_cases hs:decide (x<0)=decide (y<0)
 · have e0:(decide (x<0)==decide (y<0))=true:=by rw[hs];simp
   rw[hf.1 hs,←xZj];have H5:=zC h5;clear h1 h2 h3 h4 h5 h6 h7 h8 hs hf hql hql1 h1b hx hy hy0;generalize S x=s at*;generalize S y=t at*;generalize B (Lib.decDigits x.natAbs)=s1 at*;generalize B (Lib.decDigits y.natAbs)=t1 at*;generalize decide (x<0)=b at*;generalize decide (y<0)=c at*;go_in;go_wp2_with fail;refine(H3.out _).mono ?_;rintro e w1 ⟨rfl,rfl⟩;go_wp2_with fail;refine(H4.out _).mono ?_;rintro e w1 ⟨rfl,rfl⟩;go_wp2_with fail;refine(H5.out _).mono ?_;rintro e w1 ⟨rfl,hb⟩;go_wp2_with fail;refine(H1.out _).mono ?_;rintro e w2 ⟨rfl,rfl⟩;go_wp2_with fail;refine(H2.out _).mono ?_;rintro e w2 ⟨rfl,rfl⟩;go_wp2_with fail;go_ret;exact⟨rfl,hb⟩
 · have e0:(decide (x<0)==decide (y<0))=false:=zT0.2 hs
   rw[hf.2 hs];by_cases h0:x.natAbs%y.natAbs=0
   · rw[yA h0]
     rw[h0]at h5;have e1:((B (Lib.decDigits 0)).toList==[48])=true:=by rw[xAe,xTi,xQb yCn];rfl
     have H5:=zC h5;have H7:=zC h7;clear h1 h2 h3 h4 h5 h6 h7 h8 hs hf hql hql1 h1b hx hy hy0 h0;generalize S x=s at*;generalize S y=t at*;generalize B (Lib.decDigits x.natAbs)=s1 at*;generalize B (Lib.decDigits y.natAbs)=t1 at*;generalize B (Lib.decDigits 0)=z1 at*;generalize decide (x<0)=b at*;generalize decide (y<0)=c at*;go_in;go_wp2_with fail;refine(H3.out _).mono ?_;rintro e w1 ⟨rfl,rfl⟩;go_wp2_with fail;refine(H4.out _).mono ?_;rintro e w1 ⟨rfl,rfl⟩;go_wp2_with fail;refine(H5.out _).mono ?_;rintro e w1 ⟨rfl,hb⟩;go_wp2_with fail;refine(H1.out _).mono ?_;rintro e w2 ⟨rfl,rfl⟩;go_wp2_with fail;refine(H2.out _).mono ?_;rintro e w2 ⟨rfl,rfl⟩;go_wp2_with fail;refine(H7.out _).mono ?_;rintro e w2 ⟨rfl,rfl⟩;go_wp2_with fail;go_ret;exact⟨rfl,hb⟩
   · rw[zY h0]
     have e1:((B (Lib.decDigits (x.natAbs%y.natAbs))).toList==[48])=false:=by
      rw[xAe,xTi];exact zT0.2 fun h=>h0 (zDj h)
     have H5:=zC h5;have H6:=zC h6;have H8:=zC h8;clear h1 h2 h3 h4 h5 h6 h7 h8 hs hf hql hql1 h1b hx hy hy0 h0;generalize S x=s at*;generalize S y=t at*;generalize B (Lib.decDigits x.natAbs)=s1 at*;generalize B (Lib.decDigits y.natAbs)=t1 at*;generalize B (Lib.decDigits (x.natAbs%y.natAbs))=z1 at*;generalize decide (x<0)=b at*;generalize decide (y<0)=c at*;go_in;go_wp2_with fail;refine(H3.out _).mono ?_;rintro e w1 ⟨rfl,rfl⟩;go_wp2_with fail;refine(H4.out _).mono ?_;rintro e w1 ⟨rfl,rfl⟩;go_wp2_with fail;refine(H5.out _).mono ?_;rintro e w1 ⟨rfl,hb⟩;go_wp2_with fail;refine(H1.out _).mono ?_;rintro e w2 ⟨rfl,rfl⟩;go_wp2_with fail;refine(H2.out _).mono ?_;rintro e w2 ⟨rfl,rfl⟩;go_wp2_with fail;refine(H6.out _).mono ?_;rintro e w2 ⟨rfl,hb2⟩;have hb3:=hb.trans (hb2.mono hb.size);go_wp2_with fail;refine(H8.out _).mono ?_;rintro e w3 ⟨rfl,rfl⟩;go_wp2_with fail;go_ret;exact⟨rfl,hb3⟩
end
section
open Go.RowKit
theorem zBk (s t:ByteArray) (h0:(t.toList==[48])=true) (HM:yTj s true) (HM':yTj t true) (w:World):Calls Tryz.prog 132 #[.string s,.string t] w fun e w'=>e=.returned (.tuple #[.string ⟨#[]⟩,.int .i64 5])∧Below w.heap.size w w':=by
 have K1:=zC HM;have K2:=zC HM';clear HM HM';go_in;go_wp2_with fail;refine(K1.out _).mono ?_;rintro e w1 ⟨rfl,rfl⟩;go_wp2_with fail;refine(K2.out _).mono ?_;rintro e w1 ⟨rfl,rfl⟩;go_wp2_with fail;go_ret2;exact⟨rfl,zI _ _⟩
theorem zCk (s t:ByteArray) (h0:(t.toList==[48])=true) (HM:yTj s true) (HM':yTj t true) (w:World):Calls Tryz.prog 133 #[.string s,.string t] w fun e w'=>e=.returned (.tuple #[.string ⟨#[]⟩,.int .i64 5])∧Below w.heap.size w w':=by
 have K1:=zC HM;have K2:=zC HM';clear HM HM';go_in;go_wp2_with fail;refine(K1.out _).mono ?_;rintro e w1 ⟨rfl,rfl⟩;go_wp2_with fail;refine(K2.out _).mono ?_;rintro e w1 ⟨rfl,rfl⟩;go_wp2_with fail;go_ret2;exact⟨rfl,zI _ _⟩
theorem zDk (x y:Int) (hy0:y≠0) (hx:Figs 100 x) (hy:Figs 100 y) (h0:((S y).toList==[48])=false) (HM:yTj (S x) true) (HM':yTj (S y) true) (w:World):Calls Tryz.prog 132 #[.string (S x),.string (S y)] w (OpPost (fq x y) w):=by
 have K1:=zC HM;have K2:=zC HM';have hq:Figs 100 (fq x y):=yIj (yMk x y hy0) yCn hx;have h1:=zAk x y hy0 hx hy;have h2:=yRj (fq x y) (xN hq yCn);have H1:=zC h1;have H2:=zC h2;unfold OpPost;clear h1 h2 hq hx hy HM HM' hy0;generalize zG6 (fq x y)=r at*;generalize zH6 (fq x y)=f at*;go_in;go_wp2_with fail;refine(K1.out _).mono ?_;rintro e w1 ⟨rfl,rfl⟩;go_wp2_with fail;refine(K2.out _).mono ?_;rintro e w1 ⟨rfl,rfl⟩;go_wp2_with fail;refine(H1.out _).mono ?_;rintro e w2 ⟨rfl,hb⟩;go_wp2_with fail;refine(H2.out _).mono ?_;rintro e w3 ⟨rfl,rfl⟩;go_wp2_with fail;go_ret2;exact⟨rfl,hb⟩
theorem zEk (x y:Int) (hy0:y≠0) (hx:Figs 100 x) (hy:Figs 100 y) (h0:((S y).toList==[48])=false) (HM:yTj (S x) true) (HM':yTj (S y) true) (w:World):Calls Tryz.prog 133 #[.string (S x),.string (S y)] w (OpPost (fr x y) w):=by
 have K1:=zC HM;have K2:=zC HM';have hq:Figs 100 (fq x y):=yIj (yMk x y hy0) yCn hx;have h1:=zAk x y hy0 hx hy;have hm:(Lib.decDigits (y.natAbs*(fq x y).natAbs)).length≤200:=by
  unfold Figs at*;refine(zAc yCn).2 ?_;have a1:=(zAc yCn).1 hy;have a2:=(zAc yCn).1 hq;rw[show(200:Nat)=100+100 from rfl,yF1];exact yG1 a1 (xT a2) (yH1 yCn)
 have h2:=xMj y (fq x y) (xN hy yCn) (xN hq yCn) (xN hm yCn);have hf:Figs 200 (y*fq x y):=by unfold Figs;rw[yE1];exact hm
 have h3:=yOj (y*fq x y) (xN hf yCn);have h4:=yQj x (-(y*fq x y)) (xN hx yCn) (by unfold Figs at*;rw[xO2];exact xN hf yCn);rw[show x+ -(y*fq x y)=fr x y by unfold fr;omega]at h4;have h5:=yRj (fr x y) (xN (yIj (yNk x y hy0) yCn hy) yCn);have H1:=zC h1;have H2:=zC h2;have H3:=zC h3;have H4:=zC h4;have H5:=zC h5;unfold OpPost;clear h1 h2 h3 h4 h5 hf hm hq hx hy HM HM' hy0;generalize zG6 (fr x y)=r at*;generalize zH6 (fr x y)=f at*;go_in;go_wp2_with fail;refine(K1.out _).mono ?_;rintro e w1 ⟨rfl,rfl⟩;go_wp2_with fail;refine(K2.out _).mono ?_;rintro e w1 ⟨rfl,rfl⟩;go_wp2_with fail;refine(H1.out _).mono ?_;rintro e w2 ⟨rfl,hb⟩;go_wp2_with fail;refine(H2.out _).mono ?_;rintro e w3 ⟨rfl,hb3⟩;have hb4:=hb.trans (hb3.mono hb.size);go_wp2_with fail;refine(H3.out _).mono ?_;rintro e w4 ⟨rfl,rfl⟩;go_wp2_with fail;refine(H4.out _).mono ?_;rintro e w5 ⟨rfl,hb5⟩;have hb6:=hb4.trans (hb5.mono hb4.size);go_wp2_with fail;refine(H5.out _).mono ?_;rintro e w6 ⟨rfl,rfl⟩;go_wp2_with fail;go_ret2;exact⟨rfl,hb6⟩
end
end
section
open Go.RowKit
theorem zFk {s t:ByteArray} {o p:Option Int} (w:World) (hs:Is s o) (ht:Is t p):Calls Tryz.prog 129 #[.string s,.string t] w (yB6 (dyO 0 o p).1 (dyO 0 o p).2 w):=by
 rw[zX7];exact xSj w hs ht
theorem zGk {s t:ByteArray} {o p:Option Int} (w:World) (hs:Is s o) (ht:Is t p):Calls Tryz.prog 130 #[.string s,.string t] w (yB6 (dyO 1 o p).1 (dyO 1 o p).2 w):=by
 rw[zY7];exact xTj w hs ht
theorem zHk {s t:ByteArray} {o p:Option Int} (w:World) (hs:Is s o) (ht:Is t p):Calls Tryz.prog 131 #[.string s,.string t] w (yB6 (dyO 2 o p).1 (dyO 2 o p).2 w):=by
 rw[zZ7];exact xUj w hs ht
theorem zIk {s t:ByteArray} {x y:Int} (w:World) (hs:Is s (some x)) (ht:Is t (some y)):Calls Tryz.prog 132 #[.string s,.string t] w (yB6 (dyO 3 (some x) (some y)).1 (dyO 3 (some x) (some y)).2 w):=by
 rw[hs.1,ht.1];by_cases hy:y=0
 · subst hy
   rw[yB7 (.inl rfl)];exact zBk _ _ (by rw[zJi];rfl) (zKi hs.2) (zKi ht.2) w
 · rw[yC7 hy]
   have hq:(fq x y).natAbs<lim:=yT1 (yMk x y hy) hs.2;have h:=zDk x y hy (zPi hs.2) (zPi ht.2) (by rw[zJi];exact yG0 hy) (zKi hs.2) (zKi ht.2) w;unfold OpPost at h;rw[xCk hq,xDk hq]at h;exact h
theorem zJk {s t:ByteArray} {x y:Int} (w:World) (hs:Is s (some x)) (ht:Is t (some y)):Calls Tryz.prog 133 #[.string s,.string t] w (yB6 (dyO 4 (some x) (some y)).1 (dyO 4 (some x) (some y)).2 w):=by
 rw[hs.1,ht.1];by_cases hy:y=0
 · subst hy
   rw[yB7 (.inr rfl)];exact zCk _ _ (by rw[zJi];rfl) (zKi hs.2) (zKi ht.2) w
 · rw[yD7 hy]
   have hq:(fr x y).natAbs<lim:=yT1 (yNk x y hy) ht.2;have h:=zEk x y hy (zPi hs.2) (zPi ht.2) (by rw[zJi];exact yG0 hy) (zKi hs.2) (zKi ht.2) w;unfold OpPost at h;rw[xCk hq,xDk hq]at h;exact h
end
section
open Go.RowKit
theorem zKk {a b:Option Addr} {n c m d:Nat} {l:List Int} {es:List ByteArray} (W:World) (h:Vl W a n b m l es) (hz:∀j,j<m→(es.getD j ByteArray.empty).size≤maxLen):
 Calls Tryz.prog 58 #[.agg #[.slice a n c,.slice b m d]] W (yX4 (yL4 l es) W):=by
 have K1:=zC (fun w (hb:Below W.heap.size W w)=>xKe a n c l w (h.s.below hb));have r2:=h.mm;have HT:=zC h.t;have HZ:=zC hz;clear h hz;have hb0:Below W.heap.size W (W.alloc (.cells #[.slice a n c,.slice b m d] 25)):=(zI _ _).alloc (zR _) _;by_cases he:szE l=0
 · by_cases hm:(m:Int)=szV l
   · have hmv:∀(h:∀j,j<m→yLe (es.getD j ByteArray.empty).data.toList=true),yL4 l es=true:=fun h=>yN4.2 ⟨he,by rw[HT.out.1,hm,yD9 he],by rw[HT.out.1];exact h⟩
     have hmn:∀j,j<m→yLe (es.getD j ByteArray.empty).data.toList=false→yL4 l es=false:=fun j hj h=>yQ4 (by rw[HT.out.1];exact hj) h;have HM:=zC (And.intro hmv hmn);clear hmv hmn;rw[←hm,he]at K1;clear hm he;generalize yL4 l es=v at HM ⊢;go_in;go_wp2_with fail;refine(K1.out _ hb0).mono ?_;rintro x w1 ⟨rfl,rfl⟩;go_wp2_with fail;go_loop [5] (fun i=>∃k:Nat,i=.int .i64 k∧k≤m∧Hid (∀j,j<k→yLe (es.getD j ByteArray.empty).data.toList=true)) (fun i=>m-(intOf i).toNat)
     case atStart=>exact⟨0,rfl,by omega,zC fun j hj=>by omega⟩
     case round=>
      obtain⟨k,rfl,hk,HI⟩:=hrel;by_cases hlt:k<m
      · have e2:(k:Int)<(m:Int):=by omega
        obtain⟨bb,off,rfl,hc⟩:=HT.out.2 yEn;have hck:=(hb0.cell (p:=⟨bb,off+k,none⟩) (yU W _ (hc k hlt))).trans (hc k hlt);have hs:=HZ.out k hlt;clear hc;obtain⟨s,hse⟩:∃s,s=es.getD k ByteArray.empty:=⟨_,rfl⟩
        rw[←hse]at hck hs;have KM:=zC (xIj s hs);have HE:=zC hse;clear hse hs;cases hv:yLe s.data.toList
        · rw[hv]at KM
          obtain rfl:v=false:=HM.out.2 k hlt (by rw[←HE.out];exact hv);clear hv;go_wp2_with fail;refine(KM.out _).mono ?_;rintro x w2 ⟨rfl,rfl⟩;go_wp2_with fail;go_ret;exact⟨rfl,hb0⟩
        · rw[hv]at KM
          have HV:=zC hv;clear hv;go_wp2_with fail;refine(KM.out _).mono ?_;rintro x w2 ⟨rfl,rfl⟩;go_wp2_with fail;refine⟨⟨k+1,by go_num,by omega,zC fun j hj=> ?_⟩,by simp[intOf];omega⟩;rcases zM1 j k with h2|h2
          · exact HI.out j h2
          · rw[show j=k by omega,←HE.out];exact HV.out
      · have e2:¬(k:Int)<(m:Int):=by omega
        obtain rfl:v=true:=HM.out.1 fun j hj=>HI.out j yEn;go_wp2_with fail;go_ret;exact⟨rfl,hb0⟩
   · have hv:=yP4 (l:=l) (es:=es) (by rw[HT.out.1];exact hm)
     rw[hv];rw[he]at K1;clear hv he;generalize szV l=P at*;have hPm:(P != (m:Int))=true:=yM2.2 fun e=>hm e.symm;go_in;go_wp2_with fail;refine(K1.out _ hb0).mono ?_;rintro x w1 ⟨rfl,rfl⟩;go_wp2_with fail;go_ret;exact⟨rfl,hb0⟩
 · have hv:=yO4 (es:=es) he
   rw[hv];rw[yC9 he]at K1;clear hv;generalize szE l=E at*;have hE:(E != 0)=true:=by simpa using he
   go_in;go_wp2_with fail;refine(K1.out _ hb0).mono ?_;rintro x w1 ⟨rfl,rfl⟩;go_wp2_with fail
   all_goals
    go_ret;exact⟨rfl,hb0⟩
end
end Go.Proofs.YtcfbjdplhgdpfaaGreatDoor

import Derived.Test.YtcfbjdplhgdpfaaGreatDoorTaz
set_option maxHeartbeats 1600000
set_option maxRecDepth 100000
namespace Go.Proofs.YtcfbjdplhgdpfaaGreatDoor
set_option linter.unusedVariables false
set_option linter.unusedSimpArgs false
section
theorem yI3 {y:Int} (h:y.natAbs<lim):tlI y=(some y,0):=by unfold tlI;rw[yA h]
noncomputable def yJ3 (l:List UInt8) (o:Option Ar):Option Ar×Int:=if kmL l<3 then mnA (kmL l) o else if l=[33]then ioM o else if l=[35]then taM o else if l=[61]then shM o else if l=[44]then raM o else if l=[124]then reM o else if l=[43]then fiM o else
 if l=[60]then upK 1 o else if l=[62]then upK (-1) o else if l=[38]then whK o else if l=[63]then unK o else(none,1)
def yK3 (l:List UInt8) (o p:Option Ar):Option Ar×Int:=if kdL l<11 then dyA (kdL l) o p else if l=[35]then rsM o p else if l=[94]then tkM o p else if l=[36]then drM o p else if l=[44]then jnM o p else if l=[63]then fdK o p else if l=[64]then ixK o p else(none,1)
def unP (l:List UInt8):Option Ar:=if l=[43]then some ([],[0])else if l=[42]then some ([],[1])else none
end
section
open Go.RowKit
structure HpIs (f:Nat→Int) (T:TypeId) (p:Value) (HS:(Nat→Nat)→Nat→World→Prop):Prop where
 ml:∀w,(method 363 T p "Less").run Tryz.prog w=.ok (292,p) w
 ms:∀w,(method 363 T p "Swap").run Tryz.prog w=.ok (295,p) w
 less:∀w a n i j,HS a n w→i<n→j<n→Calls Tryz.prog 292 #[p,.int .i64 (i:Int),.int .i64 (j:Int)] w fun e w'=>∃b:Bool,e=.returned (.bool b)∧(b=true↔Lf f (a i) (a j))∧HS a n w'
 swap:∀w a n i j,HS a n w→i<n→j<n→Calls Tryz.prog 295 #[p,.int .i64 (i:Int),.int .i64 (j:Int)] w fun e w'=>e=.returned (.tuple #[])∧HS (swp a i j) n w'
theorem yL3 {f:Nat→Int} {T:TypeId} {p:Value} {HS:(Nat→Nat)→Nat→World→Prop} (H:HpIs f T p HS) {a:Nat→Nat} {n j:Nat} {W:World} (hS:HS a n W) (hj:j<n) (hn:n≤100000) (hU:Un f a n j):
 Calls Tryz.prog 170 #[.iface T p,.int .i64 (j:Int)] W fun e w'=>e=.returned (.tuple #[])∧∃b,HS b n w'∧HP f b n 0∧(Inj a n→Inj b n)∧∀v,Con b n v↔Con a n v:=by
 have KL:=zC H.less;have KS:=zC H.swap;have hml:=H.ml;have hms:=H.ms;clear H;go_in;go_wp2_with fail;go_loopw [1] (fun jv wr=>∃(i:Nat) (b:Nat→Nat),jv=.int .i64 i∧i<n∧HS b n wr∧Un f b n i∧(Inj a n→Inj b n)∧∀v,Con b n v↔Con a n v) (fun jv _=>(intOf jv).toNat)
 case atStart=>exact⟨j,a,rfl,hj,hS,hU,id,fun _=>Iff.rfl⟩
 case round=>
  obtain⟨i,b,rfl,hi,hs,hu,hinj,hcon⟩:=hrel;by_cases h0:i=0
  · subst h0
    go_wp2_with fail;go_end0
    exact⟨rfl,b,hs,hu.ends (fun h=>by omega),hinj,hcon⟩
  · obtain⟨k,rfl⟩:∃k,i=k+1:=⟨i-1,by omega⟩
    obtain⟨z,hz⟩:∃z,z=k/2:=⟨_,rfl⟩
    have hq:(k:Int)/2=(z:Int):=by omega
    have hk0:((z:Int)==(k:Int)+1)=false:=zT0.2 yEn;have HZ:=zC (show z=(k+1-1)/2 from hz);have hzk:z<k+1:=by omega
    by_cases hL:Lf f (b (k+1)) (b z)
    · have K1:Hid (Calls Tryz.prog 292 #[p,.int .i64 ((k:Int)+1),.int .i64 (z:Int)] wr fun e w'=>e=.returned (.bool true)∧HS b n w'):=zC ((KL.out wr b n (k+1) z hs hi yEn).mono fun e w' ⟨c,h1,h2,h3⟩=>⟨by rw[h1,h2.2 hL],h3⟩)
      clear hz hs;go_wp2_with (go_at_call 292;refine K1.out.mono ?_;rintro e w2 ⟨rfl,hs⟩)
      have K2:Hid (Calls Tryz.prog 295 #[p,.int .i64 (z:Int),.int .i64 ((k:Int)+1)] w2 fun e w'=>e=.returned (.tuple #[])∧HS (swp b z (k+1)) n w'):=zC (KS.out w2 b n z (k+1) hs yEn hi);refine K2.out.mono ?_;rintro e w3 ⟨rfl,hs3⟩;go_wp2_with fail;go_roundw
      case rel=>
       have hu2:=hu.step yEn hi (by rw[←HZ.out];exact hL);rw[←HZ.out]at hu2;exact⟨z,swp b z (k+1),rfl,by omega,hs3,hu2,fun h=>(hinj h).swp yEn hi,fun v=>(Con.swp yEn hi).trans (hcon v)⟩
      case measure=>simp[intOf];omega
    · have K1:Hid (Calls Tryz.prog 292 #[p,.int .i64 ((k:Int)+1),.int .i64 (z:Int)] wr fun e w'=>e=.returned (.bool false)∧HS b n w'):=zC ((KL.out wr b n (k+1) z hs hi yEn).mono fun e w' ⟨c,h1,h2,h3⟩=>⟨by
       cases c with
       |false=>exact h1
       |true=>exact absurd (h2.1 rfl) hL,h3⟩)
      clear hz hs;go_wp2_with (go_at_call 292;refine K1.out.mono ?_;rintro e w2 ⟨rfl,hs⟩)
      go_end0
      exact⟨rfl,b,hs,hu.ends (fun _=>by rw[←HZ.out];exact hL),hinj,hcon⟩
theorem yM3 {f:Nat→Int} {T:TypeId} {p:Value} {HS:(Nat→Nat)→Nat→World→Prop} (H:HpIs f T p HS) {a:Nat→Nat} {N n i0:Nat} {W:World} (hS:HS a N W) (hn:n≤N) (hN:N≤100000) (hi0:i0≤100000) (hD:Dn f a n i0 i0):
 Calls Tryz.prog 171 #[.iface T p,.int .i64 (i0:Int),.int .i64 (n:Int)] W fun e w'=>(∃c,e=.returned (.bool c))∧∃b,HS b N w'∧HP f b n i0∧(∀k,n≤k→b k=a k)∧(Inj a n→Inj b n)∧∀v,Con b n v↔Con a n v:=by
 have KL:=zC H.less;have KS:=zC H.swap;have hml:=H.ml;have hms:=H.ms;clear H;go_in;go_wp2_with fail;go_loopw [7] (fun iv wr=>∃(i:Nat) (b:Nat→Nat),iv=.int .i64 i∧i≤100000∧HS b N wr∧Dn f b n i0 i∧(∀k,n≤k→b k=a k)∧(Inj a n→Inj b n)∧∀v,Con b n v↔Con a n v) (fun iv _=>n-(intOf iv).toNat)
 case atStart=>exact⟨i0,a,rfl,hi0,hS,hD,fun _ _=>rfl,id,fun _=>Iff.rfl⟩
 case round=>
  obtain⟨i,b,rfl,hi,hs,hd,hk,hinj,hcon⟩:=hrel;by_cases h1:n≤2*i+1
  · have e1:(n:Int)≤2*(i:Int)+1:=by omega
    go_wp2_with fail;go_ret;exact⟨⟨_,rfl⟩,b,hs,hd.ends (fun m hm h0 he=>by omega),hk,hinj,hcon⟩
  · have e1:¬((n:Int)≤2*(i:Int)+1):=by omega
    have e2:¬(2*(i:Int)+1<0):=by omega
    by_cases h2:2*i+2<n
    · have e3:2*(i:Int)+2<(n:Int):=by omega
      by_cases hJ:Lf f (b (2*i+2)) (b (2*i+1))
      · have K1:Hid (∀wl,HS b N wl→Calls Tryz.prog 292 #[p,.int .i64 (2*(i:Int)+2),.int .i64 (2*(i:Int)+1)] wl fun e w'=>e=.returned (.bool true)∧HS b N w'):=zC fun wl hl=>(KL.out wl b N (2*i+2) (2*i+1) hl yEn yEn).mono fun e w' ⟨c,h1,h2,h3⟩=>⟨by
         cases c with
         |true=>exact h1
         |false=>exact absurd (h2.2 hJ) yHn,h3⟩
        have hsm:∀m,m<n→0<m→(m-1)/2=i→¬Lf f (b m) (b (2*i+2)):=fun m hm h0 he=>by
         have hmm:m=2*i+1∨m=2*i+2:=by omega
         rcases hmm with e|e
         · rw[e];exact hJ.asym
         · rw[e];exact Lf.irr
        by_cases hL:Lf f (b (2*i+2)) (b i)
        · have K2:Hid (∀wl,HS b N wl→Calls Tryz.prog 292 #[p,.int .i64 (2*(i:Int)+2),.int .i64 (i:Int)] wl fun e w'=>e=.returned (.bool true)∧HS b N w'):=zC fun wl hl=>(KL.out wl b N (2*i+2) (i) hl yEn yEn).mono fun e w' ⟨c,h1,h2,h3⟩=>⟨by
           cases c with
           |true=>exact h1
           |false=>exact absurd (h2.2 hL) yHn,h3⟩
          have K3:Hid (∀wl,HS b N wl→Calls Tryz.prog 295 #[p,.int .i64 (i:Int),.int .i64 (2*(i:Int)+2)] wl fun e w'=>e=.returned (.tuple #[])∧HS (swp b i (2*i+2)) N w'):=zC fun wl hl=>KS.out wl b N i (2*i+2) hl yEn yEn;go_wp2_with fail;refine(K1.out _ hs).mono ?_;rintro e wa ⟨rfl,hs⟩;go_wp2_with fail;refine(K2.out _ hs).mono ?_;rintro e wb ⟨rfl,hs⟩;go_wp2_with fail;refine(K3.out _ hs).mono ?_;rintro e wd ⟨rfl,hs⟩;go_wp2_with fail;go_roundw
          case rel=>exact⟨2*i+2,swp b i (2*i+2),by go_num,by omega,hs,hd.step yEn yEn hL hsm,fun k hk2=>(yEd yEn yEn).trans (hk k hk2),fun h=>(hinj h).swp yEn yEn,fun v=>(Con.swp yEn yEn).trans (hcon v)⟩
          case measure=>simp[intOf];omega
        · have K2:Hid (∀wl,HS b N wl→Calls Tryz.prog 292 #[p,.int .i64 (2*(i:Int)+2),.int .i64 (i:Int)] wl fun e w'=>e=.returned (.bool false)∧HS b N w'):=zC fun wl hl=>(KL.out wl b N (2*i+2) (i) hl yEn yEn).mono fun e w' ⟨c,h1,h2,h3⟩=>⟨by
           cases c with
           |false=>exact h1
           |true=>exact absurd (h2.1 rfl) hL,h3⟩
          go_wp2_with fail;refine(K1.out _ hs).mono ?_;rintro e wa ⟨rfl,hs⟩;go_wp2_with fail;refine(K2.out _ hs).mono ?_;rintro e wb ⟨rfl,hs⟩;go_wp2_with fail;go_ret;exact⟨⟨_,rfl⟩,b,hs,hd.ends (fun m hm h0 he=>Lf.low hL (hsm m hm h0 he)),hk,hinj,hcon⟩
      · have K1:Hid (∀wl,HS b N wl→Calls Tryz.prog 292 #[p,.int .i64 (2*(i:Int)+2),.int .i64 (2*(i:Int)+1)] wl fun e w'=>e=.returned (.bool false)∧HS b N w'):=zC fun wl hl=>(KL.out wl b N (2*i+2) (2*i+1) hl yEn yEn).mono fun e w' ⟨c,h1,h2,h3⟩=>⟨by
         cases c with
         |false=>exact h1
         |true=>exact absurd (h2.1 rfl) hJ,h3⟩
        have hsm:∀m,m<n→0<m→(m-1)/2=i→¬Lf f (b m) (b (2*i+1)):=fun m hm h0 he=>by
         have hmm:m=2*i+1∨m=2*i+2:=by omega
         rcases hmm with e|e
         · rw[e];exact Lf.irr
         · rw[e];exact hJ
        by_cases hL:Lf f (b (2*i+1)) (b i)
        · have K2:Hid (∀wl,HS b N wl→Calls Tryz.prog 292 #[p,.int .i64 (2*(i:Int)+1),.int .i64 (i:Int)] wl fun e w'=>e=.returned (.bool true)∧HS b N w'):=zC fun wl hl=>(KL.out wl b N (2*i+1) (i) hl yEn yEn).mono fun e w' ⟨c,h1,h2,h3⟩=>⟨by
           cases c with
           |true=>exact h1
           |false=>exact absurd (h2.2 hL) yHn,h3⟩
          have K3:Hid (∀wl,HS b N wl→Calls Tryz.prog 295 #[p,.int .i64 (i:Int),.int .i64 (2*(i:Int)+1)] wl fun e w'=>e=.returned (.tuple #[])∧HS (swp b i (2*i+1)) N w'):=zC fun wl hl=>KS.out wl b N i (2*i+1) hl yEn yEn;go_wp2_with fail;refine(K1.out _ hs).mono ?_;rintro e wa ⟨rfl,hs⟩;go_wp2_with fail;refine(K2.out _ hs).mono ?_;rintro e wb ⟨rfl,hs⟩;go_wp2_with fail;refine(K3.out _ hs).mono ?_;rintro e wd ⟨rfl,hs⟩;go_wp2_with fail;go_roundw
          case rel=>exact⟨2*i+1,swp b i (2*i+1),by go_num,by omega,hs,hd.step yEn yEn hL hsm,fun k hk2=>(yEd yEn yEn).trans (hk k hk2),fun h=>(hinj h).swp yEn yEn,fun v=>(Con.swp yEn yEn).trans (hcon v)⟩
          case measure=>simp[intOf];omega
        · have K2:Hid (∀wl,HS b N wl→Calls Tryz.prog 292 #[p,.int .i64 (2*(i:Int)+1),.int .i64 (i:Int)] wl fun e w'=>e=.returned (.bool false)∧HS b N w'):=zC fun wl hl=>(KL.out wl b N (2*i+1) (i) hl yEn yEn).mono fun e w' ⟨c,h1,h2,h3⟩=>⟨by
           cases c with
           |false=>exact h1
           |true=>exact absurd (h2.1 rfl) hL,h3⟩
          go_wp2_with fail;refine(K1.out _ hs).mono ?_;rintro e wa ⟨rfl,hs⟩;go_wp2_with fail;refine(K2.out _ hs).mono ?_;rintro e wb ⟨rfl,hs⟩;go_wp2_with fail;go_ret;exact⟨⟨_,rfl⟩,b,hs,hd.ends (fun m hm h0 he=>Lf.low hL (hsm m hm h0 he)),hk,hinj,hcon⟩
    · have e3:¬(2*(i:Int)+2<(n:Int)):=by omega
      have hsm:∀m,m<n→0<m→(m-1)/2=i→¬Lf f (b m) (b (2*i+1)):=fun m hm h0 he=>by
       have hmm:m=2*i+1∨m=2*i+2:=by omega
       rcases hmm with e|e
       · rw[e];exact Lf.irr
       · omega
      by_cases hL:Lf f (b (2*i+1)) (b i)
      · have K2:Hid (∀wl,HS b N wl→Calls Tryz.prog 292 #[p,.int .i64 (2*(i:Int)+1),.int .i64 (i:Int)] wl fun e w'=>e=.returned (.bool true)∧HS b N w'):=zC fun wl hl=>(KL.out wl b N (2*i+1) (i) hl yEn yEn).mono fun e w' ⟨c,h1,h2,h3⟩=>⟨by
         cases c with
         |true=>exact h1
         |false=>exact absurd (h2.2 hL) yHn,h3⟩
        have K3:Hid (∀wl,HS b N wl→Calls Tryz.prog 295 #[p,.int .i64 (i:Int),.int .i64 (2*(i:Int)+1)] wl fun e w'=>e=.returned (.tuple #[])∧HS (swp b i (2*i+1)) N w'):=zC fun wl hl=>KS.out wl b N i (2*i+1) hl yEn yEn;go_wp2_with fail;refine(K2.out _ hs).mono ?_;rintro e wb ⟨rfl,hs⟩;go_wp2_with fail;refine(K3.out _ hs).mono ?_;rintro e wd ⟨rfl,hs⟩;go_wp2_with fail;go_roundw
        case rel=>exact⟨2*i+1,swp b i (2*i+1),by go_num,by omega,hs,hd.step yEn yEn hL hsm,fun k hk2=>(yEd yEn yEn).trans (hk k hk2),fun h=>(hinj h).swp yEn yEn,fun v=>(Con.swp yEn yEn).trans (hcon v)⟩
        case measure=>simp[intOf];omega
      · have K2:Hid (∀wl,HS b N wl→Calls Tryz.prog 292 #[p,.int .i64 (2*(i:Int)+1),.int .i64 (i:Int)] wl fun e w'=>e=.returned (.bool false)∧HS b N w'):=zC fun wl hl=>(KL.out wl b N (2*i+1) (i) hl yEn yEn).mono fun e w' ⟨c,h1,h2,h3⟩=>⟨by
         cases c with
         |false=>exact h1
         |true=>exact absurd (h2.1 rfl) hL,h3⟩
        go_wp2_with fail;refine(K2.out _ hs).mono ?_;rintro e wb ⟨rfl,hs⟩;go_wp2_with fail;go_ret;exact⟨⟨_,rfl⟩,b,hs,hd.ends (fun m hm h0 he=>Lf.low hL (hsm m hm h0 he)),hk,hinj,hcon⟩
end
section
open Go.RowKit
structure HpLs (f:Nat→Int) (T:TypeId) (p:Value) (HS:(Nat→Nat)→Nat→World→Prop):Prop extends HpIs f T p HS where
 mlen:∀w,(method 363 T p "Len").run Tryz.prog w=.ok (141,p) w
 len:∀w a n,HS a n w→Calls Tryz.prog 141 #[p] w fun e w'=>e=.returned (.int .i64 (n:Int))∧HS a n w'
structure HpPu (f:Nat→Int) (T:TypeId) (p:Value) (HS:(Nat→Nat)→Nat→World→Prop) (M:Nat):Prop extends HpLs f T p HS where
 mpush:∀w,(method 363 T p "Push").run Tryz.prog w=.ok (294,p) w
 push:∀w a n,HS a n w→n<M→Calls Tryz.prog 294 #[p,.iface 3 (.int .i64 (n:Int))] w fun e w'=>e=.returned (.tuple #[])∧∃b,HS b (n+1) w'∧b n=n∧∀k,k<n→b k=a k
structure HpPo (f:Nat→Int) (T:TypeId) (p:Value) (HS:(Nat→Nat)→Nat→World→Prop):Prop extends HpLs f T p HS where
 mpop:∀w,(method 363 T p "Pop").run Tryz.prog w=.ok (293,p) w
 pop:∀w a n,HS a (n+1) w→Calls Tryz.prog 293 #[p] w fun e w'=>e=.returned (.iface 3 (.int .i64 (a n:Int)))∧HS a n w'
structure Hpn (f:Nat→Int) (a:Nat→Nat) (n:Nat):Prop where
 hp:HP f a n 0
 inj:Inj a n
 con:∀v,Con a n v↔v<n
theorem Con.snoc {a b:Nat→Nat} {n v:Nat} (h1:b n=v) (h2:∀k,k<n→b k=a k) (x:Nat):Con b (n+1) x↔Con a n x∨x=v:=by
 constructor
 · rintro⟨k,hk,rfl⟩
   by_cases e:k=n
   · subst e;exact .inr h1
   · exact .inl ⟨k,by omega,(h2 k yEn).symm⟩
 · rintro(⟨k,hk,rfl⟩|rfl)
   · exact⟨k,by omega,h2 k hk⟩
   · exact⟨n,by omega,h1⟩
theorem Inj.snoc {a b:Nat→Nat} {n v:Nat} (h1:b n=v) (h2:∀k,k<n→b k=a k) (hi:Inj a n) (hv:¬Con a n v):Inj b (n+1):=by
 intro i j h3 h4 he;by_cases e1:i=n<;>by_cases e2:j=n
 · omega
 · exact absurd ⟨j,by omega,by rw[←h2 j yEn,←he,e1,h1]⟩ hv
 · exact absurd ⟨i,by omega,by rw[←h2 i yEn,he,e2,h1]⟩ hv
 · exact hi i j yEn yEn (by rw[←h2 i yEn,←h2 j yEn];exact he)
theorem yN3 {f:Nat→Int} {T:TypeId} {p:Value} {HS:(Nat→Nat)→Nat→World→Prop} {M:Nat} (H:HpPu f T p HS M) {a:Nat→Nat} {n:Nat} {W:World} (hS:HS a n W) (hn:n<M) (hM:M≤99999) (hP:Hpn f a n):
 Calls Tryz.prog 140 #[.iface T p,.iface 3 (.int .i64 (n:Int))] W fun e w'=>e=.returned (.tuple #[])∧∃b,HS b (n+1) w'∧Hpn f b (n+1):=by
 have K1:=zC (H.push W a n hS hn);have KN:=zC H.len;have KU:=zC (fun(b:Nat→Nat) w (hs:HS b (n+1) w) (hu:Un f b (n+1) n)=>yL3 H.toHpIs hs yEn yEn hu);have m1:=H.mpush;have m2:=H.mlen;clear H;go_in;go_wp2_with fail;refine K1.out.mono ?_;rintro e w1 ⟨rfl,b,hs,h1,h2⟩;have K2:=zC (KN.out w1 b (n+1) hs);have hu:=Un.start hP.hp h2;have hcon:=Con.snoc h1 h2;have hinj:=Inj.snoc h1 h2 hP.inj (fun h=>by have:=(hP.con n).1 h;omega);clear hs K1 h1 h2;go_wp2_with fail;refine K2.out.mono ?_;rintro e w2 ⟨rfl,hs⟩;have K3:=zC (KU.out b w2 hs hu);clear hs hu;go_wp2_with fail;refine K3.out.mono ?_;rintro e w3 ⟨rfl,c,hs3,h3,h4,h5⟩;go_wp2_with fail;go_end0
 exact⟨rfl,c,hs3,h3,h4 hinj,fun v=>(h5 v).trans ((hcon v).trans (by rw[hP.con v];omega))⟩
theorem yO3 {f:Nat→Int} {T:TypeId} {p:Value} {HS:(Nat→Nat)→Nat→World→Prop} (H:HpPo f T p HS) {a:Nat→Nat} {n:Nat} {W:World} (hS:HS a (n+1) W) (hn:n<100000) (hP:HP f a (n+1) 0):
 Calls Tryz.prog 142 #[.iface T p] W fun e w'=>e=.returned (.iface 3 (.int .i64 (a 0:Int)))∧∃b,HS b n w'∧HP f b n 0∧(Inj a (n+1)→Inj b n)∧∀v,Con b n v↔Con (swp a 0 n) n v:=by
 have K1:=zC (H.len W a (n+1) hS);have K2:=zC (fun w (hs:HS a (n+1) w)=>H.swap w a (n+1) 0 n hs yEn yEn);have K3:=zC (fun w (hs:HS (swp a 0 n) (n+1) w)=>yM3 H.toHpIs (n:=n) (i0:=0) hs yEn yEn yEn (Dn.popped hP));have K4:=zC H.pop;have m1:=H.mlen;have m2:=H.ms;have m3:=H.mpop;clear H;go_in;go_wp2_with fail;refine K1.out.mono ?_;rintro e w1 ⟨rfl,hs⟩;have K5:=zC (K2.out w1 hs);clear hs;go_wp2_with fail;refine K5.out.mono ?_;rintro e w2 ⟨rfl,hs⟩;have K6:=zC (K3.out w2 hs);clear hs;go_wp2_with fail;refine K6.out.mono ?_;rintro e w3 ⟨⟨c,rfl⟩,b,hs,h1,h2,h3,h4⟩;have K7:=zC (K4.out w3 b n hs);have hb:b n=a 0:=(h2 n (zR _)).trans yDd;rw[hb]at K7;clear hs;go_wp2_with fail;refine K7.out.mono ?_;rintro e w4 ⟨rfl,hs4⟩;go_wp2_with fail;go_ret;exact⟨rfl,b,hs4,h1,fun hi=>h3 (by
  intro i j hi1 hj1 he;exact(hi.swp (i:=0) (j:=n) yEn yEn) i j yEn yEn he),h4⟩
end
section
open Go.RowKit
def yP3 (a:Nat→Nat) (n:Nat):List Value:=(List.range n).map fun k=>Value.int .i64 (a k:Int)
theorem yQ3 (a:Nat→Nat) (n:Nat):(yP3 a n).length=n:=by simp[yP3]
theorem yR3 {a:Nat→Nat} {n k:Nat} (hk:k<n):(yP3 a n)[k]?=some (.int .i64 (a k:Int)):=by simp[yP3,hk]
theorem yS3 {a:Nat→Nat} {n k:Nat} (hk:¬k<n):(yP3 a n)[k]?=none:=by simp[yP3];omega
theorem yT3 {a b:Nat→Nat} {n:Nat} (h:∀k,k<n→b k=a k):yP3 b n=yP3 a n:=List.map_congr_left fun k hk=>by rw[h k (zU0.1 hk)]
theorem yU3 (a:Nat→Nat) (n:Nat):yP3 a (n+1)=yP3 a n++[.int .i64 (a n:Int)]:=by simp[yP3,zO]
theorem yV3 (a:Nat→Nat) (n:Nat):(yP3 a (n+1)).take n=yP3 a n:=by
 rw[yU3,List.take_left' (yQ3 a n)]
theorem yW3 {a:Nat→Nat} {n i j:Nat} (hi:i<n) (hj:j<n):((yP3 a n).set i (.int .i64 (a j:Int))).set j (.int .i64 (a i:Int))=yP3 (swp a i j) n:=by
 apply zV0;intro k;rw[List.getElem?_set,List.getElem?_set,List.length_set,yQ3];by_cases hk:k<n
 · rw[yR3 (a:=Go.Proofs.YtcfbjdplhgdpfaaGreatDoor.swp a i j) hk]
   by_cases h1:j=k
   · subst h1;rw[yA rfl,yA hj,yDd]
   · rw[zY h1]
     by_cases h2:i=k
     · subst h2;rw[yA rfl,yA hi,yCd]
     · rw[zY h2,yR3 hk,yEd (fun e=>h2 e.symm) (fun e=>h1 e.symm)]
 · rw[yS3 (a:=Go.Proofs.YtcfbjdplhgdpfaaGreatDoor.swp a i j) hk,zY (fun e=>hk yEn),zY (fun e=>hk yEn),yS3 hk]
structure Kep (K:Nat→Prop) (w w':World):Prop where
 os:w'.os=w.os
 tape:w'.tape=w.tape
 output:w'.output=w.output
 size:w.heap.size≤w'.heap.size
 block:∀k,K k→w'.heap[k]?=w.heap[k]?
section
variable {K:Nat→Prop} {w a b:World}
theorem Kep.refl (K:Nat→Prop) (w:World):Kep K w w:=⟨rfl,rfl,rfl,zR _,fun _ _=>rfl⟩
theorem Kep.on (h:Kep K w a) (hK:∀k,K k→k<w.heap.size) (hb:Below a.heap.size a b):Kep K w b:=
 ⟨hb.os.trans h.os,hb.tape.trans h.tape,hb.output.trans h.output,xN h.size hb.size,fun k hk=>(hb.block k (yF (hK k hk) h.size)).trans (h.block k hk)⟩
theorem Kep.set (h:Kep K w a) {p:Addr} (hp:¬K p.block) (u:Value):Kep K w (a.setCell p u):=
 ⟨h.os,h.tape,h.output,by simpa using h.size,fun k hk=>(zX0 a p u k (fun e=>hp (e▸hk))).trans (h.block k hk)⟩
theorem Kep.grown (h:Kep K w a) (hK:∀k,K k→k<w.heap.size) {row:Option Nat} (hg:a.grownBy b row) (hr:∀k,row=some k→¬K k):Kep K w b:=
 ⟨hg.os.trans h.os,hg.tape.trans h.tape,hg.output.trans h.output,xN h.size hg.size,fun k hk=>(hg.block k (yF (hK k hk) h.size) (fun e=>hr k e.symm hk)).trans (h.block k hk)⟩
theorem Kep.below (h:Kep K w a) {B:Nat} (hB:∀k,k<B→K k):Below B w a:=⟨h.os,h.tape,h.output,h.size,fun k hk=>h.block k (hB k hk)⟩
end
structure Od (G B1:Nat) (b:Option Addr) (m d:Nat) (sg:Int) (K:Nat→Prop) (W0:World) (pf:Option Addr→Prop) (M:Nat) (a:Nat→Nat) (n:Nat) (w:World) (pa:Option Addr) (pc:Nat):Prop where
 box:w.heap[G]?=some (.cells #[.slice b m d,.slice pa n pc,.int .i64 sg] 127 (0,0))
 row:w.ownsRow B1 3 1 (.slice pa n pc) n (yP3 a n)
 addr:pf pa
 kep:Kep K W0 w
 lt:∀k,k<n→a k<M
 nle:n≤M
section
variable {G B1:Nat} {b:Option Addr} {m d:Nat} {sg:Int} {K:Nat→Prop} {W0:World} {pf:Option Addr→Prop} {M:Nat} {a:Nat→Nat} {n:Nat} {w w':World} {pa:Option Addr} {pc:Nat}
theorem Od.gl (h:Od G B1 b m d sg K W0 pf M a n w pa pc):G<w.heap.size:=(zZ0.1 h.box).1
theorem Od.c0 (h:Od G B1 b m d sg K W0 pf M a n w pa pc):w.cell? ⟨G,0,none⟩=some (.slice b m d):=by rw[yB0 _ _ _ _ _ _ h.box];rfl
theorem Od.c1 (h:Od G B1 b m d sg K W0 pf M a n w pa pc):w.cell? ⟨G,1,none⟩=some (.slice pa n pc):=by rw[yB0 _ _ _ _ _ _ h.box];rfl
theorem Od.c2 (h:Od G B1 b m d sg K W0 pf M a n w pa pc):w.cell? ⟨G,2,none⟩=some (.int .i64 sg):=by rw[yB0 _ _ _ _ _ _ h.box];rfl
theorem Od.on (h:Od G B1 b m d sg K W0 pf M a n w pa pc) (hK:∀k,K k→k<W0.heap.size) (hb:Below w.heap.size w w'):Od G B1 b m d sg K W0 pf M a n w' pa pc:=
 ⟨(hb.block G h.gl).trans h.box,zLe h.row hb,h.addr,h.kep.on hK hb,h.lt,h.nle⟩
theorem Od.drew (h:Od G B1 b m d sg K W0 pf M a n w pa pc):Od G B1 b m d sg K W0 pf M a n w.drew pa pc:=⟨h.box,h.row,h.addr,⟨h.kep.os,h.kep.tape,h.kep.output,h.kep.size,h.kep.block⟩,h.lt,h.nle⟩
theorem Od.at (h:Od G B1 b m d sg K W0 pf M a n w pa pc) (h0:0<n):∃R,pa=some ⟨R,0,none⟩∧B1≤R∧R<w.heap.size∧∀j,j<n→w.cell? ⟨R,j,none⟩=some (.int .i64 (a j:Int))∧w.frozen? ⟨R,j,none⟩=false:=by
 rcases h.row.2 with⟨e,e0⟩|⟨R,cap,cur,e,hB,hg,_⟩
 · omega
 · injection e with e1 e2 e3
   have hr:=h.row;rw[e1]at hr;refine⟨R,e1,hB,(zZ0.1 hg).1,fun j hj=>⟨?_,hr.frozenAt j⟩⟩;rw[hr.cellAt j yEn,yR3 hj]
theorem Od.caps (h:Od G B1 b m d sg K W0 pf M a n w pa pc):n≤pc∧pc≤maxLen:=xE8 h.row
end
theorem yX3 {w:World} {G:Nat} {s0 s1 s2:Value} {t:TypeId} (h:w.heap[G]?=some (.cells #[s0,s1,s2] t (0,0))) (v:Value):(w.setCell ⟨G,1,none⟩ v).heap[G]?=some (.cells #[s0,v,s2] t (0,0)):=by
 simp[World.setCell,yD0,h]
section
variable {G B1:Nat} {b:Option Addr} {m d:Nat} {sg:Int} {K:Nat→Prop} {W0:World} {pf:Option Addr→Prop} {M:Nat} {a:Nat→Nat} {n:Nat} {w w':World} {pa:Option Addr} {pc:Nat}
theorem Od.swap (h:Od G B1 b m d sg K W0 pf M a n w pa pc) (hG:G<B1) (hpf:∀R,pf (some ⟨R,0,none⟩)→B1≤R→¬K R) {R i j:Nat} (hR:pa=some ⟨R,0,none⟩) (hBR:B1≤R) (hi:i<n) (hj:j<n):
 Od G B1 b m d sg K W0 pf M (swp a i j) n ((w.setCell ⟨R,i,none⟩ (.int .i64 (a j:Int))).setCell ⟨R,j,none⟩ (.int .i64 (a i:Int))) pa pc:=by
 subst hR;have hK:=hpf R h.addr hBR;have r1:=(h.row.stored i (.int .i64 (a j:Int))).1;have r2:=(r1.stored j (.int .i64 (a i:Int))).1;rw[yW3 hi hj]at r2;refine⟨?_,r2,h.addr,(h.kep.set (p:=⟨R,i,none⟩) hK _).set (p:=⟨R,j,none⟩) hK _,fun k hk=> ?_,h.nle⟩
 · exact(zX0 _ ⟨R,j,none⟩ _ G (show G≠R by omega)).trans ((zX0 _ ⟨R,i,none⟩ _ G (show G≠R by omega)).trans h.box)
 · unfold swp
   split
   · exact h.lt j hj
   · split
     · exact h.lt i hi
     · exact h.lt k hk
theorem Od.far (h:Od G B1 b m d sg K W0 pf M a n w pa pc) (hpf:∀R,pf (some ⟨R,0,none⟩)→B1≤R→¬K R):∀k,(Value.slice pa n pc).ownBlock=some k→B1≤k∧¬K k:=fun k hk=>by
 rcases h.row.2 with⟨e,e0⟩|⟨R,cap,cur,e,hB,hg,_⟩
 · rw[e]at hk;cases hk
 · injection e with e1 e2 e3
   subst e1;have:R=k:=by simpa[Value.ownBlock]using hk
   subst this;exact⟨hB,hpf R h.addr hB⟩
theorem Od.box3 (h:Od G B1 b m d sg K W0 pf M a n w pa pc) (hG:G<B1) (hpf:∀R,pf (some ⟨R,0,none⟩)→B1≤R→¬K R) {w3:World} (hg:w.grownBy w3 (Value.slice pa n pc).ownBlock):
 w3.heap[G]?=some (.cells #[.slice b m d,.slice pa n pc,.int .i64 sg] 127 (0,0)):=(hg.block G h.gl (fun e=>by have:=(h.far hpf G e.symm).1;omega)).trans h.box
theorem Od.pushed (h:Od G B1 b m d sg K W0 pf M a n w pa pc) (hK:∀k,K k→k<W0.heap.size) (hKG:¬K G) (hG:G<B1) (hpf:∀R,pf (some ⟨R,0,none⟩)→B1≤R→¬K R) (hall:∀q,pf q)
 (hM:n<M) {w3:World} {a':Option Addr} {c':Nat} (ho:w3.ownsRow B1 3 1 (.slice a' (n+1) c') (n+1) (yP3 a n++[.int .i64 (n:Int)])) (hg:w.grownBy w3 (Value.slice pa n pc).ownBlock):
 Od G B1 b m d sg K W0 pf M (fun k=>if k=n then n else a k) (n+1) (w3.setCell ⟨G,1,none⟩ (.slice a' (n+1) c')) a' c':=by
 have e:yP3 a n++[.int .i64 (n:Int)]=yP3 (fun k=>if k=n then n else a k) (n+1):=by
  rw[yU3,yA rfl];congr 1
  exact(yT3 fun k hk=>zY yEn).symm
 rw[e]at ho;have hne:=h.far hpf;have hb3:=h.box3 hG hpf hg;refine⟨yX3 hb3 _,?_,hall _,(h.kep.grown hK hg fun k hk=>(hne k hk).2).set (p:=⟨G,1,none⟩) hKG _,fun k hk=> ?_,hM⟩
 · refine⟨ho.1,?_⟩
   rcases ho.2 with h0|⟨g',cap,cur,e1,e2,hg',h2⟩
   · exact .inl h0
   · exact .inr ⟨g',cap,cur,e1,e2,(zX0 _ ⟨G,1,none⟩ _ g' (show g'≠G by omega)).trans hg',h2⟩
 · show(if k=n then n else a k)<M
   split
   · exact hM
   · exact h.lt k yEn
theorem Od.popped (h:Od G B1 b m d sg K W0 pf M a (n+1) w pa pc) (hKG:¬K G) (hG:G<B1):
 Od G B1 b m d sg K W0 pf M a n (w.setCell ⟨G,1,none⟩ (.slice pa n pc)) pa pc:=by
 refine⟨yX3 h.box _,?_,h.addr,h.kep.set (p:=⟨G,1,none⟩) hKG _,fun k hk=>h.lt k yEn,by have:=h.nle;omega⟩;refine⟨by rw[yQ3];omega,?_⟩;rcases h.row.2 with⟨e,e0⟩|⟨R,cap,cur,e,hB,hg,h1,h2,h3,h4⟩
 · omega
 · injection e with e1 e2 e3
   subst e1 e3;refine .inr ⟨R,pc,cur,rfl,hB,(zX0 _ ⟨G,1,none⟩ _ R (show R≠G by omega)).trans hg,by omega,h2,h3,?_⟩;rw[←yV3,←h4,List.take_take];congr 1
   omega
end
end
section
section
open Go.RowKit
section
variable {W W':World} {g:Nat} {s:Int} {P:Option Addr} {n c:Nat}
end
end
end
end Go.Proofs.YtcfbjdplhgdpfaaGreatDoor

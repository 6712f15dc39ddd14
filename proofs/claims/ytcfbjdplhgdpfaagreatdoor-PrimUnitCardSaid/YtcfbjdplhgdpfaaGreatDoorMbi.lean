import Derived.Test.YtcfbjdplhgdpfaaGreatDoorProg
import Derived.Test.YtcfbjdplhgdpfaaGreatDoorMat
import Derived.WalkKit
import Derived.WalkSpells
import Derived.WalkLawsBesides
import Derived.Lib.Hide
import Derived.IntWalk
set_option maxHeartbeats 1600000
set_option maxRecDepth 100000
namespace Go.Proofs.YtcfbjdplhgdpfaaGreatDoor
set_option linter.unusedVariables false
set_option linter.unusedSimpArgs false
open Go.RowKit
structure HpIs (f:Nat→Int) (T:TypeId) (p:Value) (HS:(Nat→Nat)→Nat→World→Prop):Prop where
 ml:∀w,(method 363 T p "Less").run Tryz.prog w=.ok (292,p) w
 ms:∀w,(method 363 T p "Swap").run Tryz.prog w=.ok (295,p) w
 less:∀w a n i j,HS a n w→i<n→j<n→Calls Tryz.prog 292 #[p,.int .i64 (i:Int),.int .i64 (j:Int)] w fun e w'=>∃b:Bool,e=.returned (.bool b)∧(b=true↔Lf f (a i) (a j))∧HS a n w'
 swap:∀w a n i j,HS a n w→i<n→j<n→Calls Tryz.prog 295 #[p,.int .i64 (i:Int),.int .i64 (j:Int)] w fun e w'=>e=.returned (.tuple #[])∧HS (swp a i j) n w'
theorem hup_is {f:Nat→Int} {T:TypeId} {p:Value} {HS:(Nat→Nat)→Nat→World→Prop} (H:HpIs f T p HS) {a:Nat→Nat} {n j:Nat} {W:World} (hS:HS a n W) (hj:j<n) (hn:n≤100000) (hU:Un f a n j):
 Calls Tryz.prog 170 #[.iface T p,.int .i64 (j:Int)] W fun e w'=>e=.returned (.tuple #[])∧∃b,HS b n w'∧HP f b n 0∧(Inj a n→Inj b n)∧∀v,Con b n v↔Con a n v:=by
 have KL:=Lib.hid H.less
 have KS:=Lib.hid H.swap
 have hml:=H.ml
 have hms:=H.ms
 clear H
 go_enter Tryz.func170,Tryz.ntmps170
 go_wp2_with fail
 go_loopw [1] (fun jv wr=>∃(i:Nat) (b:Nat→Nat),jv=.int .i64 i∧i<n∧HS b n wr∧Un f b n i∧(Inj a n→Inj b n)∧∀v,Con b n v↔Con a n v) (fun jv _=>(intOf jv).toNat)
 case atStart=>exact⟨j,a,rfl,hj,hS,hU,id,fun _=>Iff.rfl⟩
 case round=>
  obtain⟨i,b,rfl,hi,hs,hu,hinj,hcon⟩:=hrel
  by_cases h0:i=0
  · subst h0
    go_wp2_with fail
    go_end0
    exact⟨rfl,b,hs,hu.ends (fun h=>by omega),hinj,hcon⟩
  · obtain⟨k,rfl⟩:∃k,i=k+1:=⟨i-1,by omega⟩
    obtain⟨z,hz⟩:∃z,z=k/2:=⟨_,rfl⟩
    have hq:(k:Int)/2=(z:Int):=by omega
    have hk0:((z:Int)==(k:Int)+1)=false:=beq_eq_false_iff_ne.2 (by omega)
    have HZ:=Lib.hid (show z=(k+1-1)/2 from hz)
    have hzk:z<k+1:=by omega
    by_cases hL:Lf f (b (k+1)) (b z)
    · have K1:Hid (Calls Tryz.prog 292 #[p,.int .i64 ((k:Int)+1),.int .i64 (z:Int)] wr fun e w'=>e=.returned (.bool true)∧HS b n w'):=Lib.hid ((KL.out wr b n (k+1) z hs hi (by omega)).mono fun e w' ⟨c,h1,h2,h3⟩=>⟨by rw[h1,h2.2 hL],h3⟩)
      clear hz hs
      go_wp2_with (go_at_call 292;refine K1.out.mono ?_;rintro e w2 ⟨rfl,hs⟩)
      have K2:Hid (Calls Tryz.prog 295 #[p,.int .i64 (z:Int),.int .i64 ((k:Int)+1)] w2 fun e w'=>e=.returned (.tuple #[])∧HS (swp b z (k+1)) n w'):=Lib.hid (KS.out w2 b n z (k+1) hs (by omega) hi)
      refine K2.out.mono ?_
      rintro e w3 ⟨rfl,hs3⟩
      go_wp2_with fail
      go_roundw
      case rel=>
       have hu2:=hu.step (by omega) hi (by rw[←HZ.out];exact hL)
       rw[←HZ.out]at hu2
       exact⟨z,swp b z (k+1),rfl,by omega,hs3,hu2,fun h=>(hinj h).swp (by omega) hi,fun v=>(Con.swp (by omega) hi).trans (hcon v)⟩
      case measure=>simp[intOf];omega
    · have K1:Hid (Calls Tryz.prog 292 #[p,.int .i64 ((k:Int)+1),.int .i64 (z:Int)] wr fun e w'=>e=.returned (.bool false)∧HS b n w'):=Lib.hid ((KL.out wr b n (k+1) z hs hi (by omega)).mono fun e w' ⟨c,h1,h2,h3⟩=>⟨by
       cases c with
       |false=>exact h1
       |true=>exact absurd (h2.1 rfl) hL,h3⟩)
      clear hz hs
      go_wp2_with (go_at_call 292;refine K1.out.mono ?_;rintro e w2 ⟨rfl,hs⟩)
      go_end0
      exact⟨rfl,b,hs,hu.ends (fun _=>by rw[←HZ.out];exact hL),hinj,hcon⟩
theorem hdn_is {f:Nat→Int} {T:TypeId} {p:Value} {HS:(Nat→Nat)→Nat→World→Prop} (H:HpIs f T p HS) {a:Nat→Nat} {N n i0:Nat} {W:World} (hS:HS a N W) (hn:n≤N) (hN:N≤100000) (hi0:i0≤100000) (hD:Dn f a n i0 i0):
 Calls Tryz.prog 171 #[.iface T p,.int .i64 (i0:Int),.int .i64 (n:Int)] W fun e w'=>(∃c,e=.returned (.bool c))∧∃b,HS b N w'∧HP f b n i0∧(∀k,n≤k→b k=a k)∧(Inj a n→Inj b n)∧∀v,Con b n v↔Con a n v:=by
 have KL:=Lib.hid H.less
 have KS:=Lib.hid H.swap
 have hml:=H.ml
 have hms:=H.ms
 clear H
 go_enter Tryz.func171,Tryz.ntmps171
 go_wp2_with fail
 go_loopw [7] (fun iv wr=>∃(i:Nat) (b:Nat→Nat),iv=.int .i64 i∧i≤100000∧HS b N wr∧Dn f b n i0 i∧(∀k,n≤k→b k=a k)∧(Inj a n→Inj b n)∧∀v,Con b n v↔Con a n v) (fun iv _=>n-(intOf iv).toNat)
 case atStart=>exact⟨i0,a,rfl,hi0,hS,hD,fun _ _=>rfl,id,fun _=>Iff.rfl⟩
 case round=>
  obtain⟨i,b,rfl,hi,hs,hd,hk,hinj,hcon⟩:=hrel
  by_cases h1:n≤2*i+1
  · have e1:(n:Int)≤2*(i:Int)+1:=by omega
    go_wp2_with fail
    go_ret
    exact⟨⟨_,rfl⟩,b,hs,hd.ends (fun m hm h0 he=>by omega),hk,hinj,hcon⟩
  · have e1:¬((n:Int)≤2*(i:Int)+1):=by omega
    have e2:¬(2*(i:Int)+1<0):=by omega
    by_cases h2:2*i+2<n
    · have e3:2*(i:Int)+2<(n:Int):=by omega
      by_cases hJ:Lf f (b (2*i+2)) (b (2*i+1))
      · have K1:Hid (∀wl,HS b N wl→Calls Tryz.prog 292 #[p,.int .i64 (2*(i:Int)+2),.int .i64 (2*(i:Int)+1)] wl fun e w'=>e=.returned (.bool true)∧HS b N w'):=Lib.hid fun wl hl=>(KL.out wl b N (2*i+2) (2*i+1) hl (by omega) (by omega)).mono fun e w' ⟨c,h1,h2,h3⟩=>⟨by
         cases c with
         |true=>exact h1
         |false=>exact absurd (h2.2 hJ) (by simp),h3⟩
        have hsm:∀m,m<n→0<m→(m-1)/2=i→¬Lf f (b m) (b (2*i+2)):=fun m hm h0 he=>by
         have hmm:m=2*i+1∨m=2*i+2:=by omega
         rcases hmm with e|e
         · rw[e];exact hJ.asym
         · rw[e];exact Lf.irr
        by_cases hL:Lf f (b (2*i+2)) (b i)
        · have K2:Hid (∀wl,HS b N wl→Calls Tryz.prog 292 #[p,.int .i64 (2*(i:Int)+2),.int .i64 (i:Int)] wl fun e w'=>e=.returned (.bool true)∧HS b N w'):=Lib.hid fun wl hl=>(KL.out wl b N (2*i+2) (i) hl (by omega) (by omega)).mono fun e w' ⟨c,h1,h2,h3⟩=>⟨by
           cases c with
           |true=>exact h1
           |false=>exact absurd (h2.2 hL) (by simp),h3⟩
          have K3:Hid (∀wl,HS b N wl→Calls Tryz.prog 295 #[p,.int .i64 (i:Int),.int .i64 (2*(i:Int)+2)] wl fun e w'=>e=.returned (.tuple #[])∧HS (swp b i (2*i+2)) N w'):=Lib.hid fun wl hl=>KS.out wl b N i (2*i+2) hl (by omega) (by omega)
          go_wp2_with fail
          refine(K1.out _ hs).mono ?_
          rintro e wa ⟨rfl,hs⟩
          go_wp2_with fail
          refine(K2.out _ hs).mono ?_
          rintro e wb ⟨rfl,hs⟩
          go_wp2_with fail
          refine(K3.out _ hs).mono ?_
          rintro e wd ⟨rfl,hs⟩
          go_wp2_with fail
          go_roundw
          case rel=>exact⟨2*i+2,swp b i (2*i+2),by go_num,by omega,hs,hd.step (by omega) (by omega) hL hsm,fun k hk2=>(swp_o (by omega) (by omega)).trans (hk k hk2),fun h=>(hinj h).swp (by omega) (by omega),fun v=>(Con.swp (by omega) (by omega)).trans (hcon v)⟩
          case measure=>simp[intOf];omega
        · have K2:Hid (∀wl,HS b N wl→Calls Tryz.prog 292 #[p,.int .i64 (2*(i:Int)+2),.int .i64 (i:Int)] wl fun e w'=>e=.returned (.bool false)∧HS b N w'):=Lib.hid fun wl hl=>(KL.out wl b N (2*i+2) (i) hl (by omega) (by omega)).mono fun e w' ⟨c,h1,h2,h3⟩=>⟨by
           cases c with
           |false=>exact h1
           |true=>exact absurd (h2.1 rfl) hL,h3⟩
          go_wp2_with fail
          refine(K1.out _ hs).mono ?_
          rintro e wa ⟨rfl,hs⟩
          go_wp2_with fail
          refine(K2.out _ hs).mono ?_
          rintro e wb ⟨rfl,hs⟩
          go_wp2_with fail
          go_ret
          exact⟨⟨_,rfl⟩,b,hs,hd.ends (fun m hm h0 he=>Lf.low hL (hsm m hm h0 he)),hk,hinj,hcon⟩
      · have K1:Hid (∀wl,HS b N wl→Calls Tryz.prog 292 #[p,.int .i64 (2*(i:Int)+2),.int .i64 (2*(i:Int)+1)] wl fun e w'=>e=.returned (.bool false)∧HS b N w'):=Lib.hid fun wl hl=>(KL.out wl b N (2*i+2) (2*i+1) hl (by omega) (by omega)).mono fun e w' ⟨c,h1,h2,h3⟩=>⟨by
         cases c with
         |false=>exact h1
         |true=>exact absurd (h2.1 rfl) hJ,h3⟩
        have hsm:∀m,m<n→0<m→(m-1)/2=i→¬Lf f (b m) (b (2*i+1)):=fun m hm h0 he=>by
         have hmm:m=2*i+1∨m=2*i+2:=by omega
         rcases hmm with e|e
         · rw[e];exact Lf.irr
         · rw[e];exact hJ
        by_cases hL:Lf f (b (2*i+1)) (b i)
        · have K2:Hid (∀wl,HS b N wl→Calls Tryz.prog 292 #[p,.int .i64 (2*(i:Int)+1),.int .i64 (i:Int)] wl fun e w'=>e=.returned (.bool true)∧HS b N w'):=Lib.hid fun wl hl=>(KL.out wl b N (2*i+1) (i) hl (by omega) (by omega)).mono fun e w' ⟨c,h1,h2,h3⟩=>⟨by
           cases c with
           |true=>exact h1
           |false=>exact absurd (h2.2 hL) (by simp),h3⟩
          have K3:Hid (∀wl,HS b N wl→Calls Tryz.prog 295 #[p,.int .i64 (i:Int),.int .i64 (2*(i:Int)+1)] wl fun e w'=>e=.returned (.tuple #[])∧HS (swp b i (2*i+1)) N w'):=Lib.hid fun wl hl=>KS.out wl b N i (2*i+1) hl (by omega) (by omega)
          go_wp2_with fail
          refine(K1.out _ hs).mono ?_
          rintro e wa ⟨rfl,hs⟩
          go_wp2_with fail
          refine(K2.out _ hs).mono ?_
          rintro e wb ⟨rfl,hs⟩
          go_wp2_with fail
          refine(K3.out _ hs).mono ?_
          rintro e wd ⟨rfl,hs⟩
          go_wp2_with fail
          go_roundw
          case rel=>exact⟨2*i+1,swp b i (2*i+1),by go_num,by omega,hs,hd.step (by omega) (by omega) hL hsm,fun k hk2=>(swp_o (by omega) (by omega)).trans (hk k hk2),fun h=>(hinj h).swp (by omega) (by omega),fun v=>(Con.swp (by omega) (by omega)).trans (hcon v)⟩
          case measure=>simp[intOf];omega
        · have K2:Hid (∀wl,HS b N wl→Calls Tryz.prog 292 #[p,.int .i64 (2*(i:Int)+1),.int .i64 (i:Int)] wl fun e w'=>e=.returned (.bool false)∧HS b N w'):=Lib.hid fun wl hl=>(KL.out wl b N (2*i+1) (i) hl (by omega) (by omega)).mono fun e w' ⟨c,h1,h2,h3⟩=>⟨by
           cases c with
           |false=>exact h1
           |true=>exact absurd (h2.1 rfl) hL,h3⟩
          go_wp2_with fail
          refine(K1.out _ hs).mono ?_
          rintro e wa ⟨rfl,hs⟩
          go_wp2_with fail
          refine(K2.out _ hs).mono ?_
          rintro e wb ⟨rfl,hs⟩
          go_wp2_with fail
          go_ret
          exact⟨⟨_,rfl⟩,b,hs,hd.ends (fun m hm h0 he=>Lf.low hL (hsm m hm h0 he)),hk,hinj,hcon⟩
    · have e3:¬(2*(i:Int)+2<(n:Int)):=by omega
      have hsm:∀m,m<n→0<m→(m-1)/2=i→¬Lf f (b m) (b (2*i+1)):=fun m hm h0 he=>by
       have hmm:m=2*i+1∨m=2*i+2:=by omega
       rcases hmm with e|e
       · rw[e];exact Lf.irr
       · omega
      by_cases hL:Lf f (b (2*i+1)) (b i)
      · have K2:Hid (∀wl,HS b N wl→Calls Tryz.prog 292 #[p,.int .i64 (2*(i:Int)+1),.int .i64 (i:Int)] wl fun e w'=>e=.returned (.bool true)∧HS b N w'):=Lib.hid fun wl hl=>(KL.out wl b N (2*i+1) (i) hl (by omega) (by omega)).mono fun e w' ⟨c,h1,h2,h3⟩=>⟨by
         cases c with
         |true=>exact h1
         |false=>exact absurd (h2.2 hL) (by simp),h3⟩
        have K3:Hid (∀wl,HS b N wl→Calls Tryz.prog 295 #[p,.int .i64 (i:Int),.int .i64 (2*(i:Int)+1)] wl fun e w'=>e=.returned (.tuple #[])∧HS (swp b i (2*i+1)) N w'):=Lib.hid fun wl hl=>KS.out wl b N i (2*i+1) hl (by omega) (by omega)
        go_wp2_with fail
        refine(K2.out _ hs).mono ?_
        rintro e wb ⟨rfl,hs⟩
        go_wp2_with fail
        refine(K3.out _ hs).mono ?_
        rintro e wd ⟨rfl,hs⟩
        go_wp2_with fail
        go_roundw
        case rel=>exact⟨2*i+1,swp b i (2*i+1),by go_num,by omega,hs,hd.step (by omega) (by omega) hL hsm,fun k hk2=>(swp_o (by omega) (by omega)).trans (hk k hk2),fun h=>(hinj h).swp (by omega) (by omega),fun v=>(Con.swp (by omega) (by omega)).trans (hcon v)⟩
        case measure=>simp[intOf];omega
      · have K2:Hid (∀wl,HS b N wl→Calls Tryz.prog 292 #[p,.int .i64 (2*(i:Int)+1),.int .i64 (i:Int)] wl fun e w'=>e=.returned (.bool false)∧HS b N w'):=Lib.hid fun wl hl=>(KL.out wl b N (2*i+1) (i) hl (by omega) (by omega)).mono fun e w' ⟨c,h1,h2,h3⟩=>⟨by
         cases c with
         |false=>exact h1
         |true=>exact absurd (h2.1 rfl) hL,h3⟩
        go_wp2_with fail
        refine(K2.out _ hs).mono ?_
        rintro e wb ⟨rfl,hs⟩
        go_wp2_with fail
        go_ret
        exact⟨⟨_,rfl⟩,b,hs,hd.ends (fun m hm h0 he=>Lf.low hL (hsm m hm h0 he)),hk,hinj,hcon⟩
end Go.Proofs.YtcfbjdplhgdpfaaGreatDoor
namespace Go.Proofs.YtcfbjdplhgdpfaaGreatDoor
set_option linter.unusedVariables false
set_option linter.unusedSimpArgs false
open Go.RowKit
structure HpLs (f:Nat→Int) (T:TypeId) (p:Value) (HS:(Nat→Nat)→Nat→World→Prop):Prop extends HpIs f T p HS where
 mlen:∀w,(method 363 T p "Len").run Tryz.prog w=.ok (141,p) w
 len:∀w a n,HS a n w→Calls Tryz.prog 141 #[p] w fun e w'=>e=.returned (.int .i64 (n:Int))∧HS a n w'
structure HpPu (f:Nat→Int) (T:TypeId) (p:Value) (HS:(Nat→Nat)→Nat→World→Prop) (M:Nat):Prop extends HpLs f T p HS where
 mpush:∀w,(method 363 T p "Push").run Tryz.prog w=.ok (294,p) w
 push:∀w a n,HS a n w→n<M→Calls Tryz.prog 294 #[p,.iface 3 (.int .i64 (n:Int))] w fun e w'=>e=.returned (.tuple #[])∧∃b,HS b (n+1) w'∧b n=n∧∀k,k<n→b k=a k
structure HpPo (f:Nat→Int) (T:TypeId) (p:Value) (HS:(Nat→Nat)→Nat→World→Prop):Prop extends HpLs f T p HS where
 mpop:∀w,(method 363 T p "Pop").run Tryz.prog w=.ok (293,p) w
 pop:∀w a n,HS a (n+1) w→Calls Tryz.prog 293 #[p] w fun e w'=>e=.returned (.iface 3 (.int .i64 (a n:Int)))∧HS a n w'
structure Hpn (f:Nat→Int) (a:Nat→Nat) (n:Nat):Prop where
 hp:HP f a n 0
 inj:Inj a n
 con:∀v,Con a n v↔v<n
theorem Con.snoc {a b:Nat→Nat} {n v:Nat} (h1:b n=v) (h2:∀k,k<n→b k=a k) (x:Nat):Con b (n+1) x↔Con a n x∨x=v:=by
 constructor
 · rintro⟨k,hk,rfl⟩
   by_cases e:k=n
   · subst e;exact .inr h1
   · exact .inl ⟨k,by omega,(h2 k (by omega)).symm⟩
 · rintro(⟨k,hk,rfl⟩|rfl)
   · exact⟨k,by omega,h2 k hk⟩
   · exact⟨n,by omega,h1⟩
theorem Inj.snoc {a b:Nat→Nat} {n v:Nat} (h1:b n=v) (h2:∀k,k<n→b k=a k) (hi:Inj a n) (hv:¬Con a n v):Inj b (n+1):=by
 intro i j h3 h4 he
 by_cases e1:i=n<;>by_cases e2:j=n
 · omega
 · exact absurd ⟨j,by omega,by rw[←h2 j (by omega),←he,e1,h1]⟩ hv
 · exact absurd ⟨i,by omega,by rw[←h2 i (by omega),he,e2,h1]⟩ hv
 · exact hi i j (by omega) (by omega) (by rw[←h2 i (by omega),←h2 j (by omega)];exact he)
theorem hpush_is {f:Nat→Int} {T:TypeId} {p:Value} {HS:(Nat→Nat)→Nat→World→Prop} {M:Nat} (H:HpPu f T p HS M) {a:Nat→Nat} {n:Nat} {W:World} (hS:HS a n W) (hn:n<M) (hM:M≤99999) (hP:Hpn f a n):
 Calls Tryz.prog 140 #[.iface T p,.iface 3 (.int .i64 (n:Int))] W fun e w'=>e=.returned (.tuple #[])∧∃b,HS b (n+1) w'∧Hpn f b (n+1):=by
 have K1:=Lib.hid (H.push W a n hS hn)
 have KN:=Lib.hid H.len
 have KU:=Lib.hid (fun(b:Nat→Nat) w (hs:HS b (n+1) w) (hu:Un f b (n+1) n)=>hup_is H.toHpIs hs (by omega) (by omega) hu)
 have m1:=H.mpush
 have m2:=H.mlen
 clear H
 go_enter Tryz.func140,Tryz.ntmps140
 go_wp2_with fail
 refine K1.out.mono ?_
 rintro e w1 ⟨rfl,b,hs,h1,h2⟩
 have K2:=Lib.hid (KN.out w1 b (n+1) hs)
 have hu:=Un.start hP.hp h2
 have hcon:=Con.snoc h1 h2
 have hinj:=Inj.snoc h1 h2 hP.inj (fun h=>by have:=(hP.con n).1 h;omega)
 clear hs K1 h1 h2
 go_wp2_with fail
 refine K2.out.mono ?_
 rintro e w2 ⟨rfl,hs⟩
 have K3:=Lib.hid (KU.out b w2 hs hu)
 clear hs hu
 go_wp2_with fail
 refine K3.out.mono ?_
 rintro e w3 ⟨rfl,c,hs3,h3,h4,h5⟩
 go_wp2_with fail
 go_end0
 exact⟨rfl,c,hs3,h3,h4 hinj,fun v=>(h5 v).trans ((hcon v).trans (by rw[hP.con v];omega))⟩
theorem hpop_is {f:Nat→Int} {T:TypeId} {p:Value} {HS:(Nat→Nat)→Nat→World→Prop} (H:HpPo f T p HS) {a:Nat→Nat} {n:Nat} {W:World} (hS:HS a (n+1) W) (hn:n<100000) (hP:HP f a (n+1) 0):
 Calls Tryz.prog 142 #[.iface T p] W fun e w'=>e=.returned (.iface 3 (.int .i64 (a 0:Int)))∧∃b,HS b n w'∧HP f b n 0∧(Inj a (n+1)→Inj b n)∧∀v,Con b n v↔Con (swp a 0 n) n v:=by
 have K1:=Lib.hid (H.len W a (n+1) hS)
 have K2:=Lib.hid (fun w (hs:HS a (n+1) w)=>H.swap w a (n+1) 0 n hs (by omega) (by omega))
 have K3:=Lib.hid (fun w (hs:HS (swp a 0 n) (n+1) w)=>hdn_is H.toHpIs (n:=n) (i0:=0) hs (by omega) (by omega) (by omega) (Dn.popped hP))
 have K4:=Lib.hid H.pop
 have m1:=H.mlen
 have m2:=H.ms
 have m3:=H.mpop
 clear H
 go_enter Tryz.func142,Tryz.ntmps142
 go_wp2_with fail
 refine K1.out.mono ?_
 rintro e w1 ⟨rfl,hs⟩
 have K5:=Lib.hid (K2.out w1 hs)
 clear hs
 go_wp2_with fail
 refine K5.out.mono ?_
 rintro e w2 ⟨rfl,hs⟩
 have K6:=Lib.hid (K3.out w2 hs)
 clear hs
 go_wp2_with fail
 refine K6.out.mono ?_
 rintro e w3 ⟨⟨c,rfl⟩,b,hs,h1,h2,h3,h4⟩
 have K7:=Lib.hid (K4.out w3 b n hs)
 have hb:b n=a 0:=(h2 n (Nat.le_refl _)).trans swp_r
 rw[hb]at K7
 clear hs
 go_wp2_with fail
 refine K7.out.mono ?_
 rintro e w4 ⟨rfl,hs4⟩
 go_wp2_with fail
 go_ret
 exact⟨rfl,b,hs4,h1,fun hi=>h3 (by
  intro i j hi1 hj1 he
  exact(hi.swp (i:=0) (j:=n) (by omega) (by omega)) i j (by omega) (by omega) he),h4⟩
end Go.Proofs.YtcfbjdplhgdpfaaGreatDoor

import Derived.Test.YtbijncndjlmmdaaGreatDoorMao
import Derived.Test.YtbijncndjlmmdaaGreatDoorMax
import Derived.Test.YtbijncndjlmmdaaGreatDoorMan
import Derived.Test.YtbijncndjlmmdaaGreatDoorProg
import Derived.WalkKit
import Derived.WalkSpells
import Derived.WalkLawsBesides
import Derived.Lib.Hide
import Derived.IntWalk
set_option maxHeartbeats 1600000
set_option maxRecDepth 100000
namespace Go.Proofs.YtbijncndjlmmdaaGreatDoor
set_option linter.unusedVariables false
set_option linter.unusedSimpArgs false
open Go.RowKit
theorem orr_ex (f:Nat→Int):∀(k p q:Nat),q-p≤k→∃l,Orr f p q l
 | 0,_,_,h=>⟨[],Orr.none (by omega)⟩
 |k+1,p,q,h=>by
  by_cases hq:q≤p
  · exact⟨[],Orr.none hq⟩
  · obtain⟨l,hl⟩:=orr_ex f k (p+1) q (by omega)
    exact⟨_,Orr.merged (by omega) (by omega) (Orr.one (p:=p)) hl⟩
theorem or_ord (f:Nat→Int) (n:Nat):Ord f n (orL f n):=by
 obtain⟨l,hl⟩:=orr_ex f n 0 n (by omega)
 rw[orL_is hl.ord];exact hl.ord
theorem intL_len (l:List Nat):(intL l).length=l.length:=by simp[intL]
theorem intL_rok {t:Nat} {L:List Nat} (hl:L.length=t) (ht:t≤4096) (hb:∀i∈L,i≤1099511627776):Rok (some ([(t:Int)],intL L)):=
 vec_rok ht (by rw[intL_len,hl]) fun x hx=>by
  obtain⟨i,hi,rfl⟩:=List.mem_map.1 hx
  have:=hb i hi
  exact small_rok (by omega)
theorem or_rok (f:Nat→Int) {n:Nat} (hn:n≤4096):Rok (some ([(n:Int)],intL (orL f n))):=
 intL_rok (or_ord f n).len hn fun i hi=>by have:=((or_ord f n).all i).1 hi;omega
theorem wh_rok {l:List Nat} (h:l.sum≤4096) (hl:l.length≤4096):Rok (some ([(l.sum:Int)],intL (whS 0 l))):=
 intL_rok (wh_len 0 l) h fun i hi=>by have:=(wh_mem hi).2;omega
theorem un_rok {q:Ar} (h:Rok (some q)) (hl:q.2.length≤4096):Rok (some ([((unS q.2).length:Int)],unS q.2)):=
 vec_rok (Nat.le_trans (un_len q.2) hl) rfl fun x hx=>h.2.2 x (un_mem.1 hx)
theorem fd_rok {q r:Ar} (h:Rok (some r)) (hl:q.2.length≤4096):Rok (some (r.1,r.2.map fun x=>(fpS q.2 x:Int))):=
 ⟨h.1,by show((r.2.map fun x=>(fpS q.2 x:Int)).length:Int)=_;rw[List.length_map];exact h.2.1,fun x hx=>by
   obtain⟨y,_,rfl⟩:=List.mem_map.1 hx
   have:=fp_le q.2 y
   exact small_rok (by omega)⟩
theorem its_in {α:Type} {es:List α} {k:Nat}:∀{l:List Nat} {x:α},x∈its es k l→x∈es
 |[],_,h=>by cases h
 |i::r,x,h=>by
  rcases List.mem_append.1 h with h|h
  · exact List.mem_of_mem_drop (List.mem_of_mem_take h)
  · exact its_in h
theorem ix_rok {q r:Ar} (h:Rok (some q)) (hf:Fits q.1 q.2) (hl:q.1≠[]) (hr:Rok (some r)) (hz:szE (r.1++q.1.tail)=0) (hn:∀i∈natL r.2,i<nI q.1) (hk:0≤pr q.1.tail):Rok (some (r.1++q.1.tail,its q.2 (kI q.1) (natL r.2))):=by
 refine⟨hz,?_,fun x hx=>h.2.2 x (its_in hx)⟩
 show((its q.2 (kI q.1) (natL r.2)).length:Int)=pr (r.1++q.1.tail)
 rw[its_length (hf.cut hl) hn,pr_append,←hr.2.1,Int.natCast_mul]
 congr 1
 · simp[natL]
 · exact Int.toNat_of_nonneg hk
end Go.Proofs.YtbijncndjlmmdaaGreatDoor
namespace Go.Proofs.YtbijncndjlmmdaaGreatDoor
set_option linter.unusedVariables false
set_option linter.unusedSimpArgs false
open Go.RowKit
theorem up_yes (sg:Int) {q:Ar} (h:q.1.length=1):upK sg (some q)=(some ([(q.2.length:Int)],intL (orL (fun i=>sg*q.2.getD i 0) q.2.length)),0):=by
 unfold upK
 dsimp only
 rw[if_neg (fun e=>e h)]
theorem or_lt {f:Nat→Int} {n:Nat}:∀i∈orL f n,i<n:=fun i hi=>((or_ord f n).all i).1 hi
theorem or_len (f:Nat→Int) (n:Nat):(orL f n).length=n:=(or_ord f n).len
end Go.Proofs.YtbijncndjlmmdaaGreatDoor
namespace Go.Proofs.YtbijncndjlmmdaaGreatDoor
set_option linter.unusedVariables false
set_option linter.unusedSimpArgs false
def Told (r:Option Ar×Int):Prop:=(∃q,r=(some q,0))∨(∃k,r=(none,k)∧0<k∧k≤8)
theorem Told.yes (q:Ar):Told (some q,0):=.inl ⟨q,rfl⟩
theorem Told.no {k:Int} (h:0<k∧k≤8):Told (none,k):=.inr ⟨k,rfl,h⟩
theorem told_if {c:Prop} [Decidable c] {a b:Option Ar×Int} (ha:c→Told a) (hb:¬c→Told b):Told (if c then a else b):=by
 by_cases h:c
 · rw[if_pos h];exact ha h
 · rw[if_neg h];exact hb h
theorem inM_err (v:Ar) (h:(inM v).2≠0):0<(inM v).2∧(inM v).2≤8:=by
 unfold inM at h ⊢
 split
 · exact⟨by decide,by decide⟩
 · split
   · rename_i g g'
     rw[if_neg g,if_pos g']at h
     exact absurd rfl h
   · exact⟨by decide,by decide⟩
theorem szE_err (l:List Int) (h:szE l≠0):0<szE l∧szE l≤8:=by
 unfold szE at h ⊢
 split
 · exact⟨by decide,by decide⟩
 · split
   · exact⟨by decide,by decide⟩
   · split
     · exact⟨by decide,by decide⟩
     · split
       · exact⟨by decide,by decide⟩
       · simp_all
theorem plE_err (w:Ar) (m:Int) (h:plE w m≠0):0<plE w m∧plE w m≤8:=by
 unfold plE at h ⊢
 split
 · exact⟨by decide,by decide⟩
 · split
   · exact⟨by decide,by decide⟩
   · simp_all
theorem ioM_told (o:Option Ar):Told (ioM o):=by
 cases o with
 |none=>exact .no ⟨by decide,by decide⟩
 |some v=>exact told_if (fun h=>.no (inM_err v h)) fun _=>told_if (fun _=>.no ⟨by decide,by decide⟩) fun _=>told_if (fun _=>.no ⟨by decide,by decide⟩) fun _=>.yes _
theorem taM_told (o:Option Ar):Told (taM o):=by
 cases o with
 |none=>exact .no ⟨by decide,by decide⟩
 |some v=>exact .yes _
theorem shM_told (o:Option Ar):Told (shM o):=by
 cases o with
 |none=>exact .no ⟨by decide,by decide⟩
 |some v=>exact .yes _
theorem raM_told (o:Option Ar):Told (raM o):=by
 cases o with
 |none=>exact .no ⟨by decide,by decide⟩
 |some v=>exact .yes _
theorem reM_told (o:Option Ar):Told (reM o):=by
 cases o with
 |none=>exact .no ⟨by decide,by decide⟩
 |some v=>exact .yes _
theorem fiM_told (o:Option Ar):Told (fiM o):=by
 cases o with
 |none=>exact .no ⟨by decide,by decide⟩
 |some v=>exact .yes _
theorem upK_told (sg:Int) (o:Option Ar):Told (upK sg o):=by
 cases o with
 |none=>exact .no ⟨by decide,by decide⟩
 |some v=>exact told_if (fun _=>.no ⟨by decide,by decide⟩) fun _=>.yes _
theorem unK_told (o:Option Ar):Told (unK o):=by
 cases o with
 |none=>exact .no ⟨by decide,by decide⟩
 |some v=>exact told_if (fun _=>.no ⟨by decide,by decide⟩) fun _=>.yes _
theorem whK_told (o:Option Ar):Told (whK o):=by
 cases o with
 |none=>exact .no ⟨by decide,by decide⟩
 |some v=>
  unfold whK
  dsimp only
  exact told_if (fun _=>.no ⟨by decide,by decide⟩) fun _=>told_if (fun _=>.no ⟨by decide,by decide⟩) fun _=>told_if (fun _=>.no ⟨by decide,by decide⟩) fun _=>told_if (fun _=>.no ⟨by decide,by decide⟩) fun _=>.yes _
theorem fdK_told (o p:Option Ar):Told (fdK o p):=by
 cases o with
 |none=>exact .no ⟨by decide,by decide⟩
 |some v=>cases p with
  |none=>exact .no ⟨by decide,by decide⟩
  |some w=>exact told_if (fun _=>.no ⟨by decide,by decide⟩) fun _=>.yes _
theorem ixK_told (o p:Option Ar):Told (ixK o p):=by
 cases o with
 |none=>exact .no ⟨by decide,by decide⟩
 |some v=>cases p with
  |none=>exact .no ⟨by decide,by decide⟩
  |some w=>exact told_if (fun _=>.no ⟨by decide,by decide⟩) fun _=>told_if (fun h=>.no (plE_err _ _ h)) fun _=>told_if (fun h=>.no (szE_err _ h)) fun _=>.yes _
theorem rsM_told (o p:Option Ar):Told (rsM o p):=by
 cases o with
 |none=>exact .no ⟨by decide,by decide⟩
 |some v=>cases p with
  |none=>exact .no ⟨by decide,by decide⟩
  |some w=>exact told_if (fun _=>.no ⟨by decide,by decide⟩) fun _=>told_if (fun _=>.no ⟨by decide,by decide⟩) fun _=>told_if (fun h=>.no (szE_err _ h)) fun _=>told_if (fun _=>.no ⟨by decide,by decide⟩) fun _=>.yes _
theorem tkM_told (o p:Option Ar):Told (tkM o p):=by
 cases o with
 |none=>exact .no ⟨by decide,by decide⟩
 |some v=>cases p with
  |none=>exact .no ⟨by decide,by decide⟩
  |some w=>exact told_if (fun h=>.no (inM_err v h)) fun _=>told_if (fun _=>.no ⟨by decide,by decide⟩) fun _=>told_if (fun _=>.no ⟨by decide,by decide⟩) fun _=>told_if (fun _=>.yes _) fun _=>.yes _
theorem drM_told (o p:Option Ar):Told (drM o p):=by
 cases o with
 |none=>exact .no ⟨by decide,by decide⟩
 |some v=>cases p with
  |none=>exact .no ⟨by decide,by decide⟩
  |some w=>exact told_if (fun h=>.no (inM_err v h)) fun _=>told_if (fun _=>.no ⟨by decide,by decide⟩) fun _=>told_if (fun _=>.yes _) fun _=>.yes _
theorem jnM_told (o p:Option Ar):Told (jnM o p):=by
 cases o with
 |none=>exact .no ⟨by decide,by decide⟩
 |some v=>cases p with
  |none=>exact .no ⟨by decide,by decide⟩
  |some w=>exact told_if (fun _=>.no ⟨by decide,by decide⟩) fun _=>told_if (fun _=>.no ⟨by decide,by decide⟩) fun _=>told_if (fun h=>.no (szE_err _ h)) fun _=>.yes _
end Go.Proofs.YtbijncndjlmmdaaGreatDoor
namespace Go.Proofs.YtbijncndjlmmdaaGreatDoor
set_option linter.unusedVariables false
set_option linter.unusedSimpArgs false
theorem dyA_told (k:Nat) (o p:Option Ar):Told (dyA k o p):=by
 rcases dyA_end k o p with⟨h1,h2⟩|⟨h1,h2⟩
 · obtain⟨q,hq⟩:=Option.isSome_iff_exists.1 h2
   exact .inl ⟨q,Prod.ext hq h1⟩
 · exact .inr ⟨(dyA k o p).2,Prod.ext h1 rfl,by omega,by omega⟩
theorem mnA_told (k:Nat) (o:Option Ar):Told (mnA k o):=by
 cases o with
 |none=>exact .no ⟨by decide,by decide⟩
 |some v=>
  obtain⟨l,xs⟩:=v
  exact told_if (fun _=>.no ⟨by decide,by decide⟩) fun _=>.yes _
theorem tlI_near {y:Int} (h:y.natAbs<lim):tlI y=(some y,0):=by unfold tlI;rw[if_pos h]
noncomputable def oneP (l:List UInt8) (o:Option Ar):Option Ar×Int:=if kmL l<3 then mnA (kmL l) o else if l=[33]then ioM o else if l=[35]then taM o else if l=[61]then shM o else if l=[44]then raM o else if l=[124]then reM o else if l=[43]then fiM o else
 if l=[60]then upK 1 o else if l=[62]then upK (-1) o else if l=[38]then whK o else if l=[63]then unK o else(none,1)
def twoP (l:List UInt8) (o p:Option Ar):Option Ar×Int:=if kdL l<11 then dyA (kdL l) o p else if l=[35]then rsM o p else if l=[94]then tkM o p else if l=[36]then drM o p else if l=[44]then jnM o p else if l=[63]then fdK o p else if l=[64]then ixK o p else(none,1)
def unP (l:List UInt8):Option Ar:=if l=[43]then some ([],[0])else if l=[42]then some ([],[1])else none
theorem oneP_told (l:List UInt8) (o:Option Ar):Told (oneP l o):=
 told_if (fun _=>mnA_told _ o) fun _=>told_if (fun _=>ioM_told o) fun _=>told_if (fun _=>taM_told o) fun _=>told_if (fun _=>shM_told o) fun _=>told_if (fun _=>raM_told o) fun _=>told_if (fun _=>reM_told o) fun _=>told_if (fun _=>fiM_told o) fun _=>
  told_if (fun _=>upK_told _ o) fun _=>told_if (fun _=>upK_told _ o) fun _=>told_if (fun _=>whK_told o) fun _=>told_if (fun _=>unK_told o) fun _=>.no ⟨by decide,by decide⟩
theorem twoP_told (l:List UInt8) (o p:Option Ar):Told (twoP l o p):=
 told_if (fun _=>dyA_told _ o p) fun _=>told_if (fun _=>rsM_told o p) fun _=>told_if (fun _=>tkM_told o p) fun _=>told_if (fun _=>drM_told o p) fun _=>told_if (fun _=>jnM_told o p) fun _=>told_if (fun _=>fdK_told o p) fun _=>told_if (fun _=>ixK_told o p) fun _=>.no ⟨by decide,by decide⟩
end Go.Proofs.YtbijncndjlmmdaaGreatDoor
namespace Go.Proofs.YtbijncndjlmmdaaGreatDoor
set_option linter.unusedVariables false
set_option linter.unusedSimpArgs false
open Go.RowKit
structure HpIs (f:Nat→Int) (T:TypeId) (p:Value) (HS:(Nat→Nat)→Nat→World→Prop):Prop where
 ml:∀w,(method 390 T p "Less").run Tryz.prog w=.ok (337,p) w
 ms:∀w,(method 390 T p "Swap").run Tryz.prog w=.ok (340,p) w
 less:∀w a n i j,HS a n w→i<n→j<n→Calls Tryz.prog 337 #[p,.int .i64 (i:Int),.int .i64 (j:Int)] w fun e w'=>∃b:Bool,e=.returned (.bool b)∧(b=true↔Lf f (a i) (a j))∧HS a n w'
 swap:∀w a n i j,HS a n w→i<n→j<n→Calls Tryz.prog 340 #[p,.int .i64 (i:Int),.int .i64 (j:Int)] w fun e w'=>e=.returned (.tuple #[])∧HS (swp a i j) n w'
theorem hup_is {f:Nat→Int} {T:TypeId} {p:Value} {HS:(Nat→Nat)→Nat→World→Prop} (H:HpIs f T p HS) {a:Nat→Nat} {n j:Nat} {W:World} (hS:HS a n W) (hj:j<n) (hn:n≤100000) (hU:Un f a n j):
 Calls Tryz.prog 217 #[.iface T p,.int .i64 (j:Int)] W fun e w'=>e=.returned (.tuple #[])∧∃b,HS b n w'∧HP f b n 0∧(Inj a n→Inj b n)∧∀v,Con b n v↔Con a n v:=by
 have KL:=Lib.hid H.less
 have KS:=Lib.hid H.swap
 have hml:=H.ml
 have hms:=H.ms
 clear H
 go_enter Tryz.func217,Tryz.ntmps217
 go_wp2_with fail
 go_loopw [1] (fun jv wr=>∃(i:Nat) (b:Nat→Nat),jv=.int .i64 i∧i<n∧HS b n wr∧Un f b n i∧(Inj a n→Inj b n)∧∀v,Con b n v↔Con a n v) (fun jv _=>(intOf jv).toNat)
 case atStart=>exact⟨j,a,rfl,hj,hS,hU,id,fun _=>Iff.rfl⟩
 case round=>
  obtain⟨i,b,rfl,hi,hs,hu,hinj,hcon⟩:=hrel
  by_cases h0:i=0
  · subst h0
    go_wp2_with fail
    go_end0
    exact⟨rfl,b,hs,hu.ends (fun h=>by omega),hinj,hcon⟩
  · obtain⟨k,rfl⟩:∃k,i=k+1:=⟨i-1,by omega⟩
    obtain⟨z,hz⟩:∃z,z=k/2:=⟨_,rfl⟩
    have hq:(k:Int)/2=(z:Int):=by omega
    have hk0:((z:Int)==(k:Int)+1)=false:=beq_eq_false_iff_ne.2 (by omega)
    have HZ:=Lib.hid (show z=(k+1-1)/2 from hz)
    have hzk:z<k+1:=by omega
    by_cases hL:Lf f (b (k+1)) (b z)
    · have K1:Hid (Calls Tryz.prog 337 #[p,.int .i64 ((k:Int)+1),.int .i64 (z:Int)] wr fun e w'=>e=.returned (.bool true)∧HS b n w'):=Lib.hid ((KL.out wr b n (k+1) z hs hi (by omega)).mono fun e w' ⟨c,h1,h2,h3⟩=>⟨by rw[h1,h2.2 hL],h3⟩)
      clear hz hs
      go_wp2_with (go_at_call 337;refine K1.out.mono ?_;rintro e w2 ⟨rfl,hs⟩)
      have K2:Hid (Calls Tryz.prog 340 #[p,.int .i64 (z:Int),.int .i64 ((k:Int)+1)] w2 fun e w'=>e=.returned (.tuple #[])∧HS (swp b z (k+1)) n w'):=Lib.hid (KS.out w2 b n z (k+1) hs (by omega) hi)
      refine K2.out.mono ?_
      rintro e w3 ⟨rfl,hs3⟩
      go_wp2_with fail
      go_roundw
      case rel=>
       have hu2:=hu.step (by omega) hi (by rw[←HZ.out];exact hL)
       rw[←HZ.out]at hu2
       exact⟨z,swp b z (k+1),rfl,by omega,hs3,hu2,fun h=>(hinj h).swp (by omega) hi,fun v=>(Con.swp (by omega) hi).trans (hcon v)⟩
      case measure=>simp[intOf];omega
    · have K1:Hid (Calls Tryz.prog 337 #[p,.int .i64 ((k:Int)+1),.int .i64 (z:Int)] wr fun e w'=>e=.returned (.bool false)∧HS b n w'):=Lib.hid ((KL.out wr b n (k+1) z hs hi (by omega)).mono fun e w' ⟨c,h1,h2,h3⟩=>⟨by
       cases c with
       |false=>exact h1
       |true=>exact absurd (h2.1 rfl) hL,h3⟩)
      clear hz hs
      go_wp2_with (go_at_call 337;refine K1.out.mono ?_;rintro e w2 ⟨rfl,hs⟩)
      go_end0
      exact⟨rfl,b,hs,hu.ends (fun _=>by rw[←HZ.out];exact hL),hinj,hcon⟩
theorem hdn_is {f:Nat→Int} {T:TypeId} {p:Value} {HS:(Nat→Nat)→Nat→World→Prop} (H:HpIs f T p HS) {a:Nat→Nat} {N n i0:Nat} {W:World} (hS:HS a N W) (hn:n≤N) (hN:N≤100000) (hi0:i0≤100000) (hD:Dn f a n i0 i0):
 Calls Tryz.prog 218 #[.iface T p,.int .i64 (i0:Int),.int .i64 (n:Int)] W fun e w'=>(∃c,e=.returned (.bool c))∧∃b,HS b N w'∧HP f b n i0∧(∀k,n≤k→b k=a k)∧(Inj a n→Inj b n)∧∀v,Con b n v↔Con a n v:=by
 have KL:=Lib.hid H.less
 have KS:=Lib.hid H.swap
 have hml:=H.ml
 have hms:=H.ms
 clear H
 go_enter Tryz.func218,Tryz.ntmps218
 go_wp2_with fail
 go_loopw [7] (fun iv wr=>∃(i:Nat) (b:Nat→Nat),iv=.int .i64 i∧i≤100000∧HS b N wr∧Dn f b n i0 i∧(∀k,n≤k→b k=a k)∧(Inj a n→Inj b n)∧∀v,Con b n v↔Con a n v) (fun iv _=>n-(intOf iv).toNat)
 case atStart=>exact⟨i0,a,rfl,hi0,hS,hD,fun _ _=>rfl,id,fun _=>Iff.rfl⟩
 case round=>
  obtain⟨i,b,rfl,hi,hs,hd,hk,hinj,hcon⟩:=hrel
  by_cases h1:n≤2*i+1
  · have e1:(n:Int)≤2*(i:Int)+1:=by omega
    go_wp2_with fail
    go_ret
    exact⟨⟨_,rfl⟩,b,hs,hd.ends (fun m hm h0 he=>by omega),hk,hinj,hcon⟩
  · have e1:¬((n:Int)≤2*(i:Int)+1):=by omega
    have e2:¬(2*(i:Int)+1<0):=by omega
    by_cases h2:2*i+2<n
    · have e3:2*(i:Int)+2<(n:Int):=by omega
      by_cases hJ:Lf f (b (2*i+2)) (b (2*i+1))
      · have K1:Hid (∀wl,HS b N wl→Calls Tryz.prog 337 #[p,.int .i64 (2*(i:Int)+2),.int .i64 (2*(i:Int)+1)] wl fun e w'=>e=.returned (.bool true)∧HS b N w'):=Lib.hid fun wl hl=>(KL.out wl b N (2*i+2) (2*i+1) hl (by omega) (by omega)).mono fun e w' ⟨c,h1,h2,h3⟩=>⟨by
         cases c with
         |true=>exact h1
         |false=>exact absurd (h2.2 hJ) (by simp),h3⟩
        have hsm:∀m,m<n→0<m→(m-1)/2=i→¬Lf f (b m) (b (2*i+2)):=fun m hm h0 he=>by
         have hmm:m=2*i+1∨m=2*i+2:=by omega
         rcases hmm with e|e
         · rw[e];exact hJ.asym
         · rw[e];exact Lf.irr
        by_cases hL:Lf f (b (2*i+2)) (b i)
        · have K2:Hid (∀wl,HS b N wl→Calls Tryz.prog 337 #[p,.int .i64 (2*(i:Int)+2),.int .i64 (i:Int)] wl fun e w'=>e=.returned (.bool true)∧HS b N w'):=Lib.hid fun wl hl=>(KL.out wl b N (2*i+2) (i) hl (by omega) (by omega)).mono fun e w' ⟨c,h1,h2,h3⟩=>⟨by
           cases c with
           |true=>exact h1
           |false=>exact absurd (h2.2 hL) (by simp),h3⟩
          have K3:Hid (∀wl,HS b N wl→Calls Tryz.prog 340 #[p,.int .i64 (i:Int),.int .i64 (2*(i:Int)+2)] wl fun e w'=>e=.returned (.tuple #[])∧HS (swp b i (2*i+2)) N w'):=Lib.hid fun wl hl=>KS.out wl b N i (2*i+2) hl (by omega) (by omega)
          go_wp2_with fail
          refine(K1.out _ hs).mono ?_
          rintro e wa ⟨rfl,hs⟩
          go_wp2_with fail
          refine(K2.out _ hs).mono ?_
          rintro e wb ⟨rfl,hs⟩
          go_wp2_with fail
          refine(K3.out _ hs).mono ?_
          rintro e wd ⟨rfl,hs⟩
          go_wp2_with fail
          go_roundw
          case rel=>exact⟨2*i+2,swp b i (2*i+2),by go_num,by omega,hs,hd.step (by omega) (by omega) hL hsm,fun k hk2=>(swp_o (by omega) (by omega)).trans (hk k hk2),fun h=>(hinj h).swp (by omega) (by omega),fun v=>(Con.swp (by omega) (by omega)).trans (hcon v)⟩
          case measure=>simp[intOf];omega
        · have K2:Hid (∀wl,HS b N wl→Calls Tryz.prog 337 #[p,.int .i64 (2*(i:Int)+2),.int .i64 (i:Int)] wl fun e w'=>e=.returned (.bool false)∧HS b N w'):=Lib.hid fun wl hl=>(KL.out wl b N (2*i+2) (i) hl (by omega) (by omega)).mono fun e w' ⟨c,h1,h2,h3⟩=>⟨by
           cases c with
           |false=>exact h1
           |true=>exact absurd (h2.1 rfl) hL,h3⟩
          go_wp2_with fail
          refine(K1.out _ hs).mono ?_
          rintro e wa ⟨rfl,hs⟩
          go_wp2_with fail
          refine(K2.out _ hs).mono ?_
          rintro e wb ⟨rfl,hs⟩
          go_wp2_with fail
          go_ret
          exact⟨⟨_,rfl⟩,b,hs,hd.ends (fun m hm h0 he=>Lf.low hL (hsm m hm h0 he)),hk,hinj,hcon⟩
      · have K1:Hid (∀wl,HS b N wl→Calls Tryz.prog 337 #[p,.int .i64 (2*(i:Int)+2),.int .i64 (2*(i:Int)+1)] wl fun e w'=>e=.returned (.bool false)∧HS b N w'):=Lib.hid fun wl hl=>(KL.out wl b N (2*i+2) (2*i+1) hl (by omega) (by omega)).mono fun e w' ⟨c,h1,h2,h3⟩=>⟨by
         cases c with
         |false=>exact h1
         |true=>exact absurd (h2.1 rfl) hJ,h3⟩
        have hsm:∀m,m<n→0<m→(m-1)/2=i→¬Lf f (b m) (b (2*i+1)):=fun m hm h0 he=>by
         have hmm:m=2*i+1∨m=2*i+2:=by omega
         rcases hmm with e|e
         · rw[e];exact Lf.irr
         · rw[e];exact hJ
        by_cases hL:Lf f (b (2*i+1)) (b i)
        · have K2:Hid (∀wl,HS b N wl→Calls Tryz.prog 337 #[p,.int .i64 (2*(i:Int)+1),.int .i64 (i:Int)] wl fun e w'=>e=.returned (.bool true)∧HS b N w'):=Lib.hid fun wl hl=>(KL.out wl b N (2*i+1) (i) hl (by omega) (by omega)).mono fun e w' ⟨c,h1,h2,h3⟩=>⟨by
           cases c with
           |true=>exact h1
           |false=>exact absurd (h2.2 hL) (by simp),h3⟩
          have K3:Hid (∀wl,HS b N wl→Calls Tryz.prog 340 #[p,.int .i64 (i:Int),.int .i64 (2*(i:Int)+1)] wl fun e w'=>e=.returned (.tuple #[])∧HS (swp b i (2*i+1)) N w'):=Lib.hid fun wl hl=>KS.out wl b N i (2*i+1) hl (by omega) (by omega)
          go_wp2_with fail
          refine(K1.out _ hs).mono ?_
          rintro e wa ⟨rfl,hs⟩
          go_wp2_with fail
          refine(K2.out _ hs).mono ?_
          rintro e wb ⟨rfl,hs⟩
          go_wp2_with fail
          refine(K3.out _ hs).mono ?_
          rintro e wd ⟨rfl,hs⟩
          go_wp2_with fail
          go_roundw
          case rel=>exact⟨2*i+1,swp b i (2*i+1),by go_num,by omega,hs,hd.step (by omega) (by omega) hL hsm,fun k hk2=>(swp_o (by omega) (by omega)).trans (hk k hk2),fun h=>(hinj h).swp (by omega) (by omega),fun v=>(Con.swp (by omega) (by omega)).trans (hcon v)⟩
          case measure=>simp[intOf];omega
        · have K2:Hid (∀wl,HS b N wl→Calls Tryz.prog 337 #[p,.int .i64 (2*(i:Int)+1),.int .i64 (i:Int)] wl fun e w'=>e=.returned (.bool false)∧HS b N w'):=Lib.hid fun wl hl=>(KL.out wl b N (2*i+1) (i) hl (by omega) (by omega)).mono fun e w' ⟨c,h1,h2,h3⟩=>⟨by
           cases c with
           |false=>exact h1
           |true=>exact absurd (h2.1 rfl) hL,h3⟩
          go_wp2_with fail
          refine(K1.out _ hs).mono ?_
          rintro e wa ⟨rfl,hs⟩
          go_wp2_with fail
          refine(K2.out _ hs).mono ?_
          rintro e wb ⟨rfl,hs⟩
          go_wp2_with fail
          go_ret
          exact⟨⟨_,rfl⟩,b,hs,hd.ends (fun m hm h0 he=>Lf.low hL (hsm m hm h0 he)),hk,hinj,hcon⟩
    · have e3:¬(2*(i:Int)+2<(n:Int)):=by omega
      have hsm:∀m,m<n→0<m→(m-1)/2=i→¬Lf f (b m) (b (2*i+1)):=fun m hm h0 he=>by
       have hmm:m=2*i+1∨m=2*i+2:=by omega
       rcases hmm with e|e
       · rw[e];exact Lf.irr
       · omega
      by_cases hL:Lf f (b (2*i+1)) (b i)
      · have K2:Hid (∀wl,HS b N wl→Calls Tryz.prog 337 #[p,.int .i64 (2*(i:Int)+1),.int .i64 (i:Int)] wl fun e w'=>e=.returned (.bool true)∧HS b N w'):=Lib.hid fun wl hl=>(KL.out wl b N (2*i+1) (i) hl (by omega) (by omega)).mono fun e w' ⟨c,h1,h2,h3⟩=>⟨by
         cases c with
         |true=>exact h1
         |false=>exact absurd (h2.2 hL) (by simp),h3⟩
        have K3:Hid (∀wl,HS b N wl→Calls Tryz.prog 340 #[p,.int .i64 (i:Int),.int .i64 (2*(i:Int)+1)] wl fun e w'=>e=.returned (.tuple #[])∧HS (swp b i (2*i+1)) N w'):=Lib.hid fun wl hl=>KS.out wl b N i (2*i+1) hl (by omega) (by omega)
        go_wp2_with fail
        refine(K2.out _ hs).mono ?_
        rintro e wb ⟨rfl,hs⟩
        go_wp2_with fail
        refine(K3.out _ hs).mono ?_
        rintro e wd ⟨rfl,hs⟩
        go_wp2_with fail
        go_roundw
        case rel=>exact⟨2*i+1,swp b i (2*i+1),by go_num,by omega,hs,hd.step (by omega) (by omega) hL hsm,fun k hk2=>(swp_o (by omega) (by omega)).trans (hk k hk2),fun h=>(hinj h).swp (by omega) (by omega),fun v=>(Con.swp (by omega) (by omega)).trans (hcon v)⟩
        case measure=>simp[intOf];omega
      · have K2:Hid (∀wl,HS b N wl→Calls Tryz.prog 337 #[p,.int .i64 (2*(i:Int)+1),.int .i64 (i:Int)] wl fun e w'=>e=.returned (.bool false)∧HS b N w'):=Lib.hid fun wl hl=>(KL.out wl b N (2*i+1) (i) hl (by omega) (by omega)).mono fun e w' ⟨c,h1,h2,h3⟩=>⟨by
         cases c with
         |false=>exact h1
         |true=>exact absurd (h2.1 rfl) hL,h3⟩
        go_wp2_with fail
        refine(K2.out _ hs).mono ?_
        rintro e wb ⟨rfl,hs⟩
        go_wp2_with fail
        go_ret
        exact⟨⟨_,rfl⟩,b,hs,hd.ends (fun m hm h0 he=>Lf.low hL (hsm m hm h0 he)),hk,hinj,hcon⟩
end Go.Proofs.YtbijncndjlmmdaaGreatDoor
namespace Go.Proofs.YtbijncndjlmmdaaGreatDoor
set_option linter.unusedVariables false
set_option linter.unusedSimpArgs false
open Go.RowKit
structure HpLs (f:Nat→Int) (T:TypeId) (p:Value) (HS:(Nat→Nat)→Nat→World→Prop):Prop extends HpIs f T p HS where
 mlen:∀w,(method 390 T p "Len").run Tryz.prog w=.ok (193,p) w
 len:∀w a n,HS a n w→Calls Tryz.prog 193 #[p] w fun e w'=>e=.returned (.int .i64 (n:Int))∧HS a n w'
structure HpPu (f:Nat→Int) (T:TypeId) (p:Value) (HS:(Nat→Nat)→Nat→World→Prop) (M:Nat):Prop extends HpLs f T p HS where
 mpush:∀w,(method 390 T p "Push").run Tryz.prog w=.ok (339,p) w
 push:∀w a n,HS a n w→n<M→Calls Tryz.prog 339 #[p,.iface 3 (.int .i64 (n:Int))] w fun e w'=>e=.returned (.tuple #[])∧∃b,HS b (n+1) w'∧b n=n∧∀k,k<n→b k=a k
structure HpPo (f:Nat→Int) (T:TypeId) (p:Value) (HS:(Nat→Nat)→Nat→World→Prop):Prop extends HpLs f T p HS where
 mpop:∀w,(method 390 T p "Pop").run Tryz.prog w=.ok (338,p) w
 pop:∀w a n,HS a (n+1) w→Calls Tryz.prog 338 #[p] w fun e w'=>e=.returned (.iface 3 (.int .i64 (a n:Int)))∧HS a n w'
structure Hpn (f:Nat→Int) (a:Nat→Nat) (n:Nat):Prop where
 hp:HP f a n 0
 inj:Inj a n
 con:∀v,Con a n v↔v<n
theorem Con.snoc {a b:Nat→Nat} {n v:Nat} (h1:b n=v) (h2:∀k,k<n→b k=a k) (x:Nat):Con b (n+1) x↔Con a n x∨x=v:=by
 constructor
 · rintro⟨k,hk,rfl⟩
   by_cases e:k=n
   · subst e;exact .inr h1
   · exact .inl ⟨k,by omega,(h2 k (by omega)).symm⟩
 · rintro(⟨k,hk,rfl⟩|rfl)
   · exact⟨k,by omega,h2 k hk⟩
   · exact⟨n,by omega,h1⟩
theorem Inj.snoc {a b:Nat→Nat} {n v:Nat} (h1:b n=v) (h2:∀k,k<n→b k=a k) (hi:Inj a n) (hv:¬Con a n v):Inj b (n+1):=by
 intro i j h3 h4 he
 by_cases e1:i=n<;>by_cases e2:j=n
 · omega
 · exact absurd ⟨j,by omega,by rw[←h2 j (by omega),←he,e1,h1]⟩ hv
 · exact absurd ⟨i,by omega,by rw[←h2 i (by omega),he,e2,h1]⟩ hv
 · exact hi i j (by omega) (by omega) (by rw[←h2 i (by omega),←h2 j (by omega)];exact he)
theorem hpush_is {f:Nat→Int} {T:TypeId} {p:Value} {HS:(Nat→Nat)→Nat→World→Prop} {M:Nat} (H:HpPu f T p HS M) {a:Nat→Nat} {n:Nat} {W:World} (hS:HS a n W) (hn:n<M) (hM:M≤99999) (hP:Hpn f a n):
 Calls Tryz.prog 192 #[.iface T p,.iface 3 (.int .i64 (n:Int))] W fun e w'=>e=.returned (.tuple #[])∧∃b,HS b (n+1) w'∧Hpn f b (n+1):=by
 have K1:=Lib.hid (H.push W a n hS hn)
 have KN:=Lib.hid H.len
 have KU:=Lib.hid (fun(b:Nat→Nat) w (hs:HS b (n+1) w) (hu:Un f b (n+1) n)=>hup_is H.toHpIs hs (by omega) (by omega) hu)
 have m1:=H.mpush
 have m2:=H.mlen
 clear H
 go_enter Tryz.func192,Tryz.ntmps192
 go_wp2_with fail
 refine K1.out.mono ?_
 rintro e w1 ⟨rfl,b,hs,h1,h2⟩
 have K2:=Lib.hid (KN.out w1 b (n+1) hs)
 have hu:=Un.start hP.hp h2
 have hcon:=Con.snoc h1 h2
 have hinj:=Inj.snoc h1 h2 hP.inj (fun h=>by have:=(hP.con n).1 h;omega)
 clear hs K1 h1 h2
 go_wp2_with fail
 refine K2.out.mono ?_
 rintro e w2 ⟨rfl,hs⟩
 have K3:=Lib.hid (KU.out b w2 hs hu)
 clear hs hu
 go_wp2_with fail
 refine K3.out.mono ?_
 rintro e w3 ⟨rfl,c,hs3,h3,h4,h5⟩
 go_wp2_with fail
 go_end0
 exact⟨rfl,c,hs3,h3,h4 hinj,fun v=>(h5 v).trans ((hcon v).trans (by rw[hP.con v];omega))⟩
theorem hpop_is {f:Nat→Int} {T:TypeId} {p:Value} {HS:(Nat→Nat)→Nat→World→Prop} (H:HpPo f T p HS) {a:Nat→Nat} {n:Nat} {W:World} (hS:HS a (n+1) W) (hn:n<100000) (hP:HP f a (n+1) 0):
 Calls Tryz.prog 194 #[.iface T p] W fun e w'=>e=.returned (.iface 3 (.int .i64 (a 0:Int)))∧∃b,HS b n w'∧HP f b n 0∧(Inj a (n+1)→Inj b n)∧∀v,Con b n v↔Con (swp a 0 n) n v:=by
 have K1:=Lib.hid (H.len W a (n+1) hS)
 have K2:=Lib.hid (fun w (hs:HS a (n+1) w)=>H.swap w a (n+1) 0 n hs (by omega) (by omega))
 have K3:=Lib.hid (fun w (hs:HS (swp a 0 n) (n+1) w)=>hdn_is H.toHpIs (n:=n) (i0:=0) hs (by omega) (by omega) (by omega) (Dn.popped hP))
 have K4:=Lib.hid H.pop
 have m1:=H.mlen
 have m2:=H.ms
 have m3:=H.mpop
 clear H
 go_enter Tryz.func194,Tryz.ntmps194
 go_wp2_with fail
 refine K1.out.mono ?_
 rintro e w1 ⟨rfl,hs⟩
 have K5:=Lib.hid (K2.out w1 hs)
 clear hs
 go_wp2_with fail
 refine K5.out.mono ?_
 rintro e w2 ⟨rfl,hs⟩
 have K6:=Lib.hid (K3.out w2 hs)
 clear hs
 go_wp2_with fail
 refine K6.out.mono ?_
 rintro e w3 ⟨⟨c,rfl⟩,b,hs,h1,h2,h3,h4⟩
 have K7:=Lib.hid (K4.out w3 b n hs)
 have hb:b n=a 0:=(h2 n (Nat.le_refl _)).trans swp_r
 rw[hb]at K7
 clear hs
 go_wp2_with fail
 refine K7.out.mono ?_
 rintro e w4 ⟨rfl,hs4⟩
 go_wp2_with fail
 go_ret
 exact⟨rfl,b,hs4,h1,fun hi=>h3 (by
  intro i j hi1 hj1 he
  exact(hi.swp (i:=0) (j:=n) (by omega) (by omega)) i j (by omega) (by omega) he),h4⟩
end Go.Proofs.YtbijncndjlmmdaaGreatDoor

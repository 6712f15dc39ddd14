import Derived.Test.YtbijncndjlmmdaaGreatDoorMal
import Derived.WalkKit
import Derived.WalkSpells
import Derived.WalkLawsBesides
import Derived.Lib.Hide
import Derived.BigQuiet
import Derived.Deep.QuietTactic
import Derived.Deep.RegionWith
import Derived.Deep.OwnRows
import Derived.Deep.RegionLaw
import Derived.Deep.AppendLies
set_option maxHeartbeats 800000
set_option maxRecDepth 10000
namespace Go.Proofs.YtbijncndjlmmdaaGreatDoor
set_option linter.unusedVariables false
set_option linter.unusedSimpArgs false
section
def pr:List Int→Int
 |[]=>1
 |a::r=>a*pr r
theorem pr_append (l m:List Int):pr (l++m)=pr l*pr m:=by
 induction l with
 |nil=>simp[pr]
 |cons a r ih=>simp only[List.cons_append,pr,ih,Int.mul_assoc]
theorem stake_snoc {l:List Int} {k:Nat} (h:k<l.length):l.take (k+1)=l.take k++[l.getD k 0]:=by
 rw[List.take_succ_eq_append_getElem h,List.getD_eq_getElem?_getD,List.getElem?_eq_getElem h];rfl
theorem sdrop_head {l:List Int} {k:Nat} (h:k<l.length):l.drop k=l.getD k 0::l.drop (k+1):=by
 rw[List.drop_eq_getElem_cons h,List.getD_eq_getElem?_getD,List.getElem?_eq_getElem h];rfl
theorem pr_take {l:List Int} {k:Nat} (h:k<l.length):pr (l.take (k+1))=pr (l.take k)*l.getD k 0:=by
 rw[stake_snoc h,pr_append];simp[pr]
theorem pr_drop {l:List Int} {k:Nat} (h:k<l.length):pr (l.drop k)=l.getD k 0*pr (l.drop (k+1)):=by
 rw[sdrop_head h];rfl
theorem pr_nonneg:∀{l:List Int},(∀j,j<l.length→0≤l.getD j 0)→0≤pr l
 |[],_=>by simp[pr]
 |a::r,h=>Int.mul_nonneg (by have:=h 0 (by simp);simpa using this) (pr_nonneg fun j hj=>by have:=h (j+1) (by simpa using hj);simpa using this)
theorem pr_pos:∀{l:List Int},(∀j,j<l.length→0<l.getD j 0)→0<pr l
 |[],_=>by simp[pr]
 |a::r,h=>Int.mul_pos (by have:=h 0 (by simp);simpa using this) (pr_pos fun j hj=>by have:=h (j+1) (by simpa using hj);simpa using this)
theorem getD_take {l:List Int} {j k:Nat} (h:j<k):(l.take k).getD j 0=l.getD j 0:=by
 simp only[List.getD_eq_getElem?_getD,List.getElem?_take_of_lt h]
theorem getD_drop (l:List Int) (j k:Nat):(l.drop k).getD j 0=l.getD (k+j) 0:=by
 simp only[List.getD_eq_getElem?_getD,List.getElem?_drop]
def negL (l:List Int):Bool:=l.any fun x=>decide (x<0)
def bigL (l:List Int):Bool:=l.any fun x=>decide (1099511627776<x)
def szE (l:List Int):Int:=if 3<l.length then 3 else if negL l then 5 else if bigL l then 8 else if 4096<pr l then 8 else 0
def szV (l:List Int):Int:=if szE l=0 then pr l else 0
theorem any_at {p:Int→Bool} {l:List Int}:l.any p=true↔∃j,j<l.length∧p (l.getD j 0)=true:=by
 rw[List.any_eq_true]
 constructor
 · rintro⟨x,hx,h⟩
   obtain⟨j,hj,rfl⟩:=List.getElem_of_mem hx
   exact⟨j,hj,by rw[List.getD_eq_getElem?_getD,List.getElem?_eq_getElem hj];exact h⟩
 · rintro⟨j,hj,h⟩
   rw[List.getD_eq_getElem?_getD,List.getElem?_eq_getElem hj]at h
   exact⟨_,List.getElem_mem hj,h⟩
theorem negL_yes {l:List Int} {j:Nat} (hj:j<l.length) (h:l.getD j 0<0):negL l=true:=any_at.2 ⟨j,hj,by simpa using h⟩
theorem negL_no {l:List Int} (h:∀j,j<l.length→0≤l.getD j 0):negL l=false:=by
 rw[←Bool.not_eq_true]
 intro hh
 obtain⟨j,hj,h2⟩:=any_at.1 hh
 have:=h j hj
 simp only[decide_eq_true_eq]at h2
 omega
theorem negL_nn {l:List Int} (h:negL l=false):∀j,j<l.length→0≤l.getD j 0:=by
 intro j hj
 rcases Int.lt_or_le (l.getD j 0) 0 with h0|h0
 · rw[negL_yes hj h0]at h;cases h
 · exact h0
theorem bigL_yes {l:List Int} {j:Nat} (hj:j<l.length) (h:1099511627776<l.getD j 0):bigL l=true:=any_at.2 ⟨j,hj,by simpa using h⟩
theorem bigL_no {l:List Int} (h:∀j,j<l.length→l.getD j 0≤1099511627776):bigL l=false:=by
 rw[←Bool.not_eq_true]
 intro hh
 obtain⟨j,hj,h2⟩:=any_at.1 hh
 have:=h j hj
 simp only[decide_eq_true_eq]at h2
 omega
theorem bigL_le {l:List Int} (h:bigL l=false):∀j,j<l.length→l.getD j 0≤1099511627776:=by
 intro j hj
 rcases Int.lt_or_le 1099511627776 (l.getD j 0)with h0|h0
 · rw[bigL_yes hj h0]at h;cases h
 · exact h0
theorem szE_rank {l:List Int} (h:3<l.length):szE l=3:=by unfold szE;rw[if_pos h]
theorem szE_neg {l:List Int} (h:l.length≤3) (hn:negL l=true):szE l=5:=by unfold szE;rw[if_neg (by omega),if_pos hn]
theorem szE_big {l:List Int} (h:l.length≤3) (hn:negL l=false) (hb:bigL l=true):szE l=8:=by unfold szE;rw[if_neg (by omega),hn,if_neg (by decide),if_pos hb]
theorem szE_pr {l:List Int} (h:l.length≤3) (hn:negL l=false) (hb:bigL l=false) (hp:4096<pr l):szE l=8:=by unfold szE;rw[if_neg (by omega),hn,hb,if_neg (by decide),if_neg (by decide),if_pos hp]
theorem szE_ok {l:List Int} (h:l.length≤3) (hn:negL l=false) (hb:bigL l=false) (hp:pr l≤4096):szE l=0:=by unfold szE;rw[if_neg (by omega),hn,hb,if_neg (by decide),if_neg (by decide),if_neg (by omega)]
theorem szV_zero {l:List Int} (h:szE l≠0):szV l=0:=if_neg h
theorem szV_pr {l:List Int} (h:szE l=0):szV l=pr l:=if_pos h
structure MayL (l:List Int):Prop where
 len:l.length≤3
 nn:∀j,j<l.length→0≤l.getD j 0
 le:∀j,j<l.length→l.getD j 0≤1099511627776
 pr:pr l≤4096
theorem szE_may {l:List Int}:szE l=0↔MayL l:=by
 constructor
 · intro h
   rcases Nat.lt_or_ge 3 l.length with h1|h1
   · rw[szE_rank h1]at h;cases h
   · rcases Bool.eq_false_or_eq_true (negL l)with h2|h2
     · rw[szE_neg h1 h2]at h;cases h
     · rcases Bool.eq_false_or_eq_true (bigL l)with h3|h3
       · rw[szE_big h1 h2 h3]at h;cases h
       · rcases Int.lt_or_le 4096 (pr l)with h4|h4
         · rw[szE_pr h1 h2 h3 h4]at h;cases h
         · exact⟨h1,negL_nn h2,bigL_le h3,h4⟩
 · rintro⟨h1,h2,h3,h4⟩
   exact szE_ok h1 (negL_no h2) (bigL_no h3) h4
structure SzInv (l:List Int) (k:Nat) (sz er:Int):Prop where
 nn:∀j,j<k→0≤l.getD j 0
 er:(er=0∧(∀j,j<k→l.getD j 0≤1099511627776)∧sz=min (pr (l.take k)) 4097)∨(er=8∧∃j,j<k∧1099511627776<l.getD j 0)
 lo:0≤sz
 hi:sz≤4097
theorem SzInv.start (l:List Int):SzInv l 0 1 0:=⟨fun _ h=>by omega,.inl ⟨rfl,fun _ h=>by omega,by show(1:Int)=min 1 4097;decide⟩,by decide,by decide⟩
theorem cap_mul {p x s:Int} (hp:0≤p) (hx:0≤x) (hs:s=min p 4097):min (s*x) 4097=min (p*x) 4097:=by
 rcases Int.lt_or_le 4097 p with h|h
 · have e:s=4097:=by omega
   rcases Int.lt_or_le 0 x with h0|h0
   · have h1:4097*1≤4097*x:=Int.mul_le_mul_of_nonneg_left (by omega) (by decide)
     have h2:4097*x≤p*x:=Int.mul_le_mul_of_nonneg_right (by omega) hx
     rw[e];omega
   · have:x=0:=by omega
     subst this;simp
 · rw[hs,Int.min_eq_left h]
theorem SzInv.step {l:List Int} {k:Nat} {sz er:Int} (h:SzInv l k sz er) (hk:k<l.length) (h0:0≤l.getD k 0) (h1:l.getD k 0≤1099511627776):SzInv l (k+1) (min (sz*l.getD k 0) 4097) er:=by
 have hm:0≤sz*l.getD k 0:=Int.mul_nonneg h.lo h0
 refine⟨fun j hj=> ?_,?_,by omega,by omega⟩
 · rcases Nat.lt_or_ge j k with h2|h2
   · exact h.nn j h2
   · rw[show j=k by omega];exact h0
 · rcases h.er with⟨e,h2,h3⟩|⟨e,j,h2,h3⟩
   · refine .inl ⟨e,fun j hj=> ?_,?_⟩
     · rcases Nat.lt_or_ge j k with h4|h4
       · exact h2 j h4
       · rw[show j=k by omega];exact h1
     · rw[pr_take hk]
       exact cap_mul (pr_nonneg fun j hj=>by rw[List.length_take]at hj;rw[getD_take (by omega)];exact h.nn j (by omega)) h0 h3
   · exact .inr ⟨e,j,by omega,h3⟩
theorem SzInv.big {l:List Int} {k:Nat} {sz er:Int} (h:SzInv l k sz er) (h1:1099511627776<l.getD k 0):SzInv l (k+1) sz 8:=by
 refine⟨fun j hj=> ?_,.inr ⟨rfl,k,by omega,h1⟩,h.lo,h.hi⟩
 rcases Nat.lt_or_ge j k with h2|h2
 · exact h.nn j h2
 · rw[show j=k by omega];omega
theorem SzInv.ends {l:List Int} {sz er:Int} (h:SzInv l l.length sz er) (hl:l.length≤3):
 (er=8∧szE l=8∧szV l=0)∨(er=0∧4096<sz∧szE l=8∧szV l=0)∨(er=0∧sz≤4096∧szE l=0∧szV l=sz):=by
 have hn:=negL_no h.nn
 rcases h.er with⟨e,h2,h3⟩|⟨e,j,h2,h3⟩
 · rw[List.take_of_length_le (Nat.le_refl _)]at h3
   have hb:=bigL_no h2
   rcases Int.lt_or_le 4096 (pr l)with h4|h4
   · have h5:=szE_pr hl hn hb h4
     exact .inr (.inl ⟨e,by omega,h5,szV_zero (by rw[h5];decide)⟩)
   · have h5:=szE_ok hl hn hb h4
     exact .inr (.inr ⟨e,by omega,h5,by rw[szV_pr h5];omega⟩)
 · have h5:=szE_big hl hn (bigL_yes h2 h3)
   exact .inl ⟨e,h5,szV_zero (by rw[h5];decide)⟩
def hor (l t:List Int):Nat→Int
 | 0=>0
 |i+1=>hor l t i*l.getD i 0+t.getD i 0
def inL (l t:List Int):Nat→Bool
 | 0=>true
 |i+1=>inL l t i&&(decide (0≤t.getD i 0)&&decide (t.getD i 0<l.getD i 0))
def ofB (l t:List Int):Bool:=decide (szE l=0)&&decide (l.length=t.length)&&inL l t l.length
def ofV (l t:List Int):Int:=if ofB l t then hor l t l.length else 0
theorem inL_at {l t:List Int} {n:Nat} (h:inL l t n=true) {i:Nat} (hi:i<n):0≤t.getD i 0∧t.getD i 0<l.getD i 0:=by
 induction n with
 |zero=>omega
 |succ n ih=>
  simp only[inL,Bool.and_eq_true,decide_eq_true_eq]at h
  rcases Nat.lt_or_ge i n with h1|h1
  · exact ih h.1 h1
  · rw[show i=n by omega];exact h.2
theorem hor_range {l t:List Int} {n:Nat} (hn:n≤l.length) (h:inL l t n=true):0≤hor l t n∧hor l t n<pr (l.take n):=by
 induction n with
 |zero=>simp[hor,pr]
 |succ n ih=>
  have h1:=inL_at h (Nat.lt_succ_self n)
  simp only[inL,Bool.and_eq_true]at h
  obtain⟨a,b⟩:=ih (by omega) h.1
  rw[pr_take (by omega)]
  have h2:0≤hor l t n*l.getD n 0:=Int.mul_nonneg a (by omega)
  have h3:(hor l t n+1)*l.getD n 0≤pr (l.take n)*l.getD n 0:=Int.mul_le_mul_of_nonneg_right (by omega) (by omega)
  rw[Int.add_mul,Int.one_mul]at h3
  show 0≤hor l t n*l.getD n 0+t.getD n 0∧hor l t n*l.getD n 0+t.getD n 0<_
  omega
structure AllPos (l:List Int):Prop where
 pos:∀j,j<l.length→0<l.getD j 0
theorem AllPos.drop {l:List Int} (h:AllPos l) (k:Nat):0<pr (l.drop k):=pr_pos fun j hj=>by rw[getD_drop];exact h.pos _ (by rw[List.length_drop]at hj;omega)
theorem AllPos.take {l:List Int} (h:AllPos l) (k:Nat):0<pr (l.take k):=pr_pos fun j hj=>by rw[List.length_take]at hj;rw[getD_take (by omega)];exact h.pos _ (by omega)
theorem pr_zero_at {l:List Int} {j:Nat} (hj:j<l.length) (h:l.getD j 0=0):pr l=0:=by
 have e:=List.take_append_drop j l
 rw[←e,pr_append,pr_drop hj,h];simp
theorem MayL.pos {l:List Int} (h:MayL l) (hp:0<Go.Proofs.YtbijncndjlmmdaaGreatDoor.pr l):AllPos l:=by
 refine⟨fun j hj=> ?_⟩
 have h0:=h.nn j hj
 rcases Int.lt_or_le 0 (l.getD j 0)with h1|h1
 · exact h1
 · rw[pr_zero_at hj (by omega)]at hp;omega
theorem AllPos.take_le {l:List Int} (h:AllPos l) (k:Nat):Go.Proofs.YtbijncndjlmmdaaGreatDoor.pr (l.take k)≤Go.Proofs.YtbijncndjlmmdaaGreatDoor.pr l:=by
 have e:Go.Proofs.YtbijncndjlmmdaaGreatDoor.pr l=Go.Proofs.YtbijncndjlmmdaaGreatDoor.pr (l.take k)*Go.Proofs.YtbijncndjlmmdaaGreatDoor.pr (l.drop k):=by rw[←pr_append,List.take_append_drop]
 have h1:=h.take k
 have h2:=h.drop k
 have h3:Go.Proofs.YtbijncndjlmmdaaGreatDoor.pr (l.take k)*1≤Go.Proofs.YtbijncndjlmmdaaGreatDoor.pr (l.take k)*Go.Proofs.YtbijncndjlmmdaaGreatDoor.pr (l.drop k):=Int.mul_le_mul_of_nonneg_left (by omega) (by omega)
 omega
end
section
open Go.RowKit
def Sl (W:World) (a:Option Addr) (n:Nat) (l:List Int):Prop:=
 l.length=n∧(0<n→∃b off,a=some ⟨b,off,none⟩∧∀j,j<n→W.cell? ⟨b,off+j,none⟩=some (.int .i64 (l.getD j 0)))
theorem Sl.below {W W':World} {a:Option Addr} {n:Nat} {l:List Int} (h:Sl W a n l) (hb:Below W.heap.size W W'):Sl W' a n l:=by
 refine⟨h.1,fun hn=> ?_⟩
 obtain⟨b,off,e,hc⟩:=h.2 hn
 exact⟨b,off,e,fun j hj=>(hb.cell (show(⟨b,off+j,none⟩:Addr).block<W.heap.size from World.block_lt_of_cell? W _ (hc j hj))).trans (hc j hj)⟩
theorem Sl.nil (W:World) (a:Option Addr):Sl W a 0 []:=⟨rfl,fun h=>by omega⟩
theorem w64 {x:Int} (h0: -9223372036854775808≤x) (h1:x≤9223372036854775807):wrap64 x=x:=by unfold wrap64;omega
def SizeIs (f:Nat) (a:Option Addr) (n c:Nat) (v e:Int) (W:World):Prop:=
 Calls Tryz.prog f #[.slice a n c] W fun x W'=>x=.returned (.tuple #[.int .i64 v,.int .i64 e])∧W=W'
theorem Size_rank (a:Option Addr) (n c:Nat) (W:World) (hn:3<n):SizeIs 54 a n c 0 3 W:=by
 have e1:(3:Int)<(n:Int):=by omega
 unfold SizeIs
 go_enter Tryz.func54,Tryz.ntmps54
 go_wp2_with fail
 go_step3
 go_wp2_with fail
 try rw[Exit.noGoto_ret]
 go_ret2
 exact⟨rfl,rfl⟩
theorem Size_few (a:Option Addr) (n c:Nat) (l:List Int) (W:World) (h:Sl W a n l) (hn:n≤3):SizeIs 54 a n c (szV l) (szE l) W:=by
 have e1:¬(3:Int)<(n:Int):=by omega
 obtain⟨v,hv⟩:∃v,v=szV l:=⟨_,rfl⟩
 obtain⟨e,he⟩:∃e,e=szE l:=⟨_,rfl⟩
 rw[←hv,←he]
 have HV:=Lib.hid hv
 have HE:=Lib.hid he
 have HS:=Lib.hid h
 clear hv he h
 unfold SizeIs
 go_enter Tryz.func54,Tryz.ntmps54
 go_wp2_with fail
 go_step3
 go_wp2_with fail
 go_step3
 go_wp2_with fail
 go_loop [4,5,13] (fun s r i=>∃(k:Nat) (sz er:Int),i=.int .i64 k∧s=.int .i64 sz∧r=.int .i64 er∧k≤n∧SzInv l k sz er) (fun _ _ i=>n-(intOf i).toNat)
 case atStart=>exact⟨0,1,0,rfl,rfl,rfl,by omega,SzInv.start l⟩
 case round=>
  obtain⟨k,sz,er,rfl,rfl,rfl,hk,hI⟩:=hrel
  have HI:=Lib.hid hI
  clear hI
  by_cases hlt:k<n
  · have e2:(k:Int)<(n:Int):=by omega
    obtain⟨b,off,rfl,hc⟩:=HS.out.2 (by omega)
    have hck:=hc k hlt
    have HC:=Lib.hid hc
    clear hc
    obtain⟨x,hx⟩:∃x,x=l.getD k 0:=⟨_,rfl⟩
    rw[←hx]at hck
    have HX:=Lib.hid hx
    clear hx
    by_cases c1:x<0
    · have hE:=szE_neg (by rw[HS.out.1];exact hn) (negL_yes (j:=k) (by rw[HS.out.1];exact hlt) (by rw[←HX.out];exact c1))
      have hV:=szV_zero (l:=l) (by rw[hE];decide)
      obtain rfl:e=5:=HE.out.trans hE
      obtain rfl:v=0:=HV.out.trans hV
      clear hE hV
      go_wp2_with fail
      try rw[Exit.noGoto_ret]
      go_ret2
      exact⟨rfl,rfl⟩
    by_cases c2:1099511627776<x
    · go_wp2_with fail
      go_round
      case rel=>exact⟨k+1,sz,8,by go_num,rfl,rfl,by omega,HI.out.big (by rw[←HX.out];exact c2)⟩
      case measure=>simp[intOf];omega
    · have hst:=HI.out.step (by rw[HS.out.1];exact hlt) (by rw[←HX.out];omega) (by rw[←HX.out];omega)
      have hm:0≤sz*x:=Int.mul_nonneg HI.out.lo (by omega)
      have hm2:sz*x≤4097*x:=Int.mul_le_mul_of_nonneg_right HI.out.hi (by omega)
      rw[←HX.out,←w64 (x:=sz*x) (by omega) (by omega)]at hst
      have HT:=Lib.hid hst
      clear hst hm hm2
      go_wp2_with fail
      go_round
      case rel=>exact⟨k+1,_,er,by go_num,rfl,rfl,by omega,HT.out⟩
      case measure=>simp[intOf];omega
  · have e2:¬(k:Int)<(n:Int):=by omega
    obtain rfl:k=n:=by omega
    have hen:=(show SzInv l l.length sz er by rw[HS.out.1];exact HI.out).ends (by rw[HS.out.1];exact hn)
    rcases hen with⟨rfl,hE,hV⟩|⟨rfl,c3,hE,hV⟩|⟨rfl,c3,hE,hV⟩
    · obtain rfl:e=8:=HE.out.trans hE
      obtain rfl:v=0:=HV.out.trans hV
      clear hE hV
      go_wp2_with fail
      try rw[Exit.noGoto_ret]
      go_ret2
      exact⟨rfl,rfl⟩
    · obtain rfl:e=8:=HE.out.trans hE
      obtain rfl:v=0:=HV.out.trans hV
      clear hE hV
      go_wp2_with fail
      try rw[Exit.noGoto_ret]
      go_ret2
      exact⟨rfl,rfl⟩
    · obtain rfl:e=0:=HE.out.trans hE
      obtain rfl:v=sz:=HV.out.trans hV
      clear hE hV
      have c4:¬4096<v:=by omega
      go_wp2_with fail
      try rw[Exit.noGoto_ret]
      go_ret2
      exact⟨rfl,rfl⟩
theorem Size_is (a:Option Addr) (n c:Nat) (l:List Int) (W:World) (h:Sl W a n l):SizeIs 54 a n c (szV l) (szE l) W:=by
 rcases Nat.lt_or_ge 3 n with h3|h3
 · have e:=szE_rank (l:=l) (by rw[h.1];exact h3)
   rw[e,szV_zero (by rw[e];decide)]
   exact Size_rank a n c W h3
 · exact Size_few a n c l W h h3
theorem May_is (a:Option Addr) (n c:Nat) (l:List Int) (W:World) (h:Sl W a n l) (b:Bool) (hb:b=(szE l==0)):
 Calls Tryz.prog 191 #[.slice a n c] W fun x W'=>x=.returned (.bool b)∧W=W':=by
 have hs:=Size_is a n c l W h
 unfold SizeIs at hs
 have K:=Lib.hid hs
 clear hs h
 subst hb
 go_enter Tryz.func191,Tryz.ntmps191
 go_wp2_with fail
 refine K.out.mono ?_
 rintro x w1 ⟨rfl,rfl⟩
 go_wp2_with fail
 go_ret
 exact⟨rfl,rfl⟩
theorem Equal_is (a1 a2:Option Addr) (n c m d:Nat) (l k:List Int) (W:World) (h1:Sl W a1 n l) (h2:Sl W a2 m k) (hn:n≤9223372036854775807) (hm:m≤9223372036854775807):
 Calls Tryz.prog 72 #[.slice a1 n c,.slice a2 m d] W fun x W'=>x=.returned (.bool (l==k))∧Below W.heap.size W W':=by
 by_cases hnm:n=m
 · subst hnm
   by_cases h0:n=0
   · subst h0
     have e1:=List.length_eq_zero_iff.1 h1.1
     have e2:=List.length_eq_zero_iff.1 h2.1
     subst e1 e2
     refine(Tryz.slices_Equal_int_empty a1 a2 c 0 d W (by decide)).mono ?_
     rintro x w ⟨rfl,rfl⟩
     exact⟨rfl,Below.refl _ _⟩
   · obtain⟨b1,o1,rfl,hc1⟩:=h1.2 (by omega)
     obtain⟨b2,o2,rfl,hc2⟩:=h2.2 (by omega)
     refine(Tryz.slices_Equal_int b1 o1 n c b2 o2 n d l k W (by rw[h1.1];exact Nat.le_refl _) (by rw[h2.1];exact Nat.le_refl _) hn hm (fun j hj=>hc1 j (by rw[←h1.1];exact hj)) (fun j hj=>hc2 j (by rw[←h2.1];exact hj))).mono ?_
     rintro x w ⟨rfl,q,rfl⟩
     refine⟨?_,⟨rfl,rfl,rfl,Nat.le_refl _,fun _ _=>rfl⟩⟩
     rw[List.take_of_length_le (by rw[h1.1];exact Nat.le_refl _),List.take_of_length_le (by rw[h2.1];exact Nat.le_refl _)]
 · refine(Tryz.slices_Equal_int_lens a1 a2 n c m d W hnm).mono ?_
   rintro x w ⟨rfl,rfl⟩
   refine⟨?_,Below.refl _ _⟩
   have:(l==k)=false:=beq_eq_false_iff_ne.2 (by rintro rfl;exact hnm (h1.1.symm.trans h2.1))
   rw[this]
theorem Same_is (a1 a2:Option Addr) (n c m d:Nat) (l k:List Int) (W:World) (h1:Sl W a1 n l) (h2:Sl W a2 m k) (hn:n≤1000000) (hm:m≤1000000):
 Calls Tryz.prog 52 #[.slice a1 n c,.slice a2 m d] W fun x W'=>x=.returned (.bool (l==k))∧Below W.heap.size W W':=by
 have K:=Lib.hid (Equal_is a1 a2 n c m d l k W h1 h2 (by omega) (by omega))
 obtain⟨b,hb⟩:∃b,b=(l==k):=⟨_,rfl⟩
 rw[←hb]at K ⊢
 clear hb h1 h2
 go_enter Tryz.func52,Tryz.ntmps52
 go_wp2_with fail
 refine K.out.mono ?_
 rintro x w1 ⟨rfl,hb⟩
 go_wp2_with fail
 go_ret
 exact⟨rfl,hb⟩
end
section
open Go.RowKit
structure R1 (l:List Int) (k:Nat) (b:Bool):Prop where
 nn:∀j,j<k→0≤l.getD j 0
 z:b=true↔∃j,j<k∧l.getD j 0=0
end
section
open Go.RowKit
def SDrawn (w w':World):Prop:=∃n,w'=w.drewN n
theorem SDrawn.refl (w:World):SDrawn w w:=⟨0,rfl⟩
theorem SDrawn.below {w w':World} (h:SDrawn w w'):Below w.heap.size w w':=by obtain⟨n,rfl⟩:=h;exact⟨rfl,rfl,rfl,Nat.le_refl _,fun _ _=>rfl⟩
def OfInv (l t:List Int) (k:Nat) (v:Int):Prop:=inL l t k=true∧(AllPos l→v=hor l t k)
theorem OfInv.start (l t:List Int):OfInv l t 0 0:=⟨rfl,fun _=>rfl⟩
theorem OfInv.step {l t:List Int} (hm:MayL l) {k:Nat} {v:Int} (h:OfInv l t k v) (hk:k<l.length) (h0:0≤t.getD k 0) (h1:t.getD k 0<l.getD k 0):OfInv l t (k+1) (wrap64 (wrap64 (v*l.getD k 0)+t.getD k 0)):=by
 have hi:inL l t (k+1)=true:=by simp only[inL,h.1,Bool.true_and,Bool.and_eq_true,decide_eq_true_eq];exact⟨h0,h1⟩
 refine⟨hi,fun hp=> ?_⟩
 have hr:=hor_range (l:=l) (t:=t) (n:=k+1) (by omega) hi
 have hle:=hp.take_le (k+1)
 have hpr:=hm.pr
 rw[h.2 hp]
 have e:hor l t (k+1)=hor l t k*l.getD k 0+t.getD k 0:=rfl
 rw[e]at hr ⊢
 have hr0:=hor_range (l:=l) (t:=t) (n:=k) (by omega) h.1
 have h2:0≤hor l t k*l.getD k 0:=Int.mul_nonneg hr0.1 (by omega)
 rw[w64 (x:=hor l t k*l.getD k 0) (by omega) (by omega),w64 (by omega) (by omega)]
theorem OfInv.ends {l t:List Int} {v:Int} (h:OfInv l t l.length v) (hm:MayL l) (hl:l.length=t.length):ofB l t=true∧ofV l t=v:=by
 have hp:AllPos l:=⟨fun j hj=>by have:=inL_at h.1 hj;omega⟩
 have e:ofB l t=true:=by unfold ofB;rw[szE_may.2 hm,hl.symm,h.1];simp
 exact⟨e,by unfold ofV;rw[if_pos e,h.2 hp]⟩
end
section
open Go.RowKit
end
section
open Go.RowKit
def SRw (w:World) (g N:Nat) (F:Nat→Int):Prop:=w.rowIs g 3 N (fun j=>Value.int .i64 (F j))
theorem SRw.cell {w:World} {g N:Nat} {F:Nat→Int} (h:SRw w g N F) {i:Nat} (hi:i<N):w.cell? ⟨g,i,none⟩=some (.int .i64 (F i)):=World.rowIs.cell h hi
end
section
open Go.RowKit
def valsI (l:List Int):List Value:=l.map (Value.int .i64)
theorem owns_sl {w:World} {base n:Nat} {v:Value} {l:List Int} (h:w.ownsRow base 3 1 v n (valsI l)):∃a c,v=.slice a n c∧Sl w a n l:=by
 obtain⟨hl,h⟩:=h
 unfold valsI at hl h
 rw[List.length_map,Nat.mul_one]at hl
 rcases h with⟨rfl,rfl⟩|⟨g,cap,cur,rfl,_,hg,_,_,_,ht⟩
 · exact⟨none,0,rfl,hl,fun h=>by omega⟩
 · refine⟨_,cap,rfl,hl,fun _=>⟨g,0,rfl,fun j hj=> ?_⟩⟩
   rw[Nat.mul_one]at ht
   rw[Nat.zero_add,cell_of_row w g j cur _ _ hg,←Array.getElem?_toList]
   have e:cur.toList[j]?=(cur.toList.take n)[j]?:=by rw[List.getElem?_take_of_lt hj]
   rw[e,ht,List.getElem?_map,List.getElem?_eq_getElem (by omega)]
   simp[List.getElem?_eq_getElem (show j<l.length by omega)]
end
section
open Go.RowKit
def SlPost (l:List Int) (W:World) (x:Ending) (W':World):Prop:=∃a' n' c',x=.returned (.slice a' n' c')∧Sl W' a' n' l∧n'≤20∧Below W.heap.size W W'
theorem Clone_is (a:Option Addr) (n c:Nat) (l:List Int) (W:World) (h:Sl W a n l) (hn:n≤20):Calls Tryz.prog 71 #[.slice a n c] W (SlPost l W):=by
 rcases a with _|a
 · have h0:n=0:=by
    rcases Nat.eq_zero_or_pos n with h0|h0
    · exact h0
    · obtain⟨b,off,e,_⟩:=h.2 h0;cases e
   subst h0
   obtain rfl:=List.length_eq_zero_iff.1 h.1
   refine(Tryz.slices_Clone_int_nil 0 c W).mono ?_
   rintro x w ⟨rfl,rfl⟩
   exact⟨none,0,0,rfl,Sl.nil _ _,by omega,Below.refl _ _⟩
 · by_cases h0:n=0
   · subst h0
     obtain rfl:=List.length_eq_zero_iff.1 h.1
     refine(Tryz.slices_Clone_int_zero a c W).mono ?_
     rintro x w ⟨v',rfl,hown,_,hb⟩
     obtain⟨a',c',rfl,hs⟩:=owns_sl (l:=[]) hown
     exact⟨a',0,c',rfl,hs,by omega,hb⟩
   · obtain⟨b,off,e,hc⟩:=h.2 (by omega)
     injection e with e
     subst e
     refine(Tryz.slices_Clone_int b off n c l W (by rw[h.1];exact Nat.le_refl _) (by omega) (fun j hj=>hc j (by rw[←h.1];exact hj))).mono ?_
     rintro x w ⟨v',rfl,hown,_,hb⟩
     rw[List.take_of_length_le (by rw[h.1];exact Nat.le_refl _)]at hown
     obtain⟨a',c',rfl,hs⟩:=owns_sl hown
     exact⟨a',n,c',rfl,hs,hn,hb⟩
def itV (l:List Int):Int:=if l.length=0 then 1 else l.getD 0 0
def ItPost (v:Int) (l:List Int) (W:World) (x:Ending) (W':World):Prop:=∃a' n' c',x=.returned (.tuple #[.int .i64 v,.slice a' n' c'])∧Sl W' a' n' l∧n'≤20∧Below W.heap.size W W'
theorem Sl.tail {W:World} {b off n:Nat} {l:List Int} (h:Sl W (some ⟨b,off,none⟩) n l) (hn:0<n):Sl W (some ⟨b,off+1,none⟩) (n-1) l.tail:=by
 obtain⟨b',off',e,hc⟩:=h.2 hn
 injection e with e
 injection e with e1 e2 _
 subst e1 e2
 refine⟨by rw[List.length_tail,h.1],fun _=>⟨b,off+1,rfl,fun j hj=> ?_⟩⟩
 rw[Nat.add_assoc,hc (1+j) (by omega),←List.drop_one,getD_drop]
theorem Items_is (a:Option Addr) (n c:Nat) (l:List Int) (W:World) (h:Sl W a n l) (hn:n≤20) (hc:n≤c) (hc2:c≤maxLen):
 Calls Tryz.prog 56 #[.slice a n c] W (ItPost (itV l) l.tail W):=by
 unfold maxLen at hc2
 by_cases h0:n=0
 · subst h0
   obtain rfl:=List.length_eq_zero_iff.1 h.1
   have HS:=Lib.hid h
   clear h
   rw[show itV []=1 from rfl,List.tail_nil]
   go_enter Tryz.func56,Tryz.ntmps56
   go_wp2_with fail
   go_ret2
   exact⟨none,0,0,rfl,Sl.nil _ _,by omega,Below.refl _ _⟩
 · obtain⟨b,off,rfl,hcell⟩:=h.2 (by omega)
   have HT:=Lib.hid (h.tail (by omega))
   have hv:itV l=l.getD 0 0:=if_neg (by rw[h.1];exact h0)
   rw[hv]
   have hc0:=hcell 0 (by omega)
   rw[Nat.add_zero]at hc0
   have hlt:b<W.heap.size:=World.block_lt_of_cell? W _ hc0
   generalize l.getD 0 0=v at hc0 ⊢
   clear hv hcell h
   have e1:(n:Int)≠0:=by omega
   have e2:(0:Int)<n:=by omega
   by_cases h1:c=1
   · subst h1
     obtain rfl:n=1:=by omega
     have KC:=Lib.hid (fun w a c=>Clone_is a (1-1) c l.tail w ⟨HT.out.1,fun h=>by omega⟩ (by omega))
     go_enter Tryz.func56,Tryz.ntmps56
     go_wp2_with fail
     go_region_with (go_at_call 71;refine(KC.out _ _ _).mono ?_;rintro e w2 ⟨a',n',c',rfl,hs,hn',hb2⟩;have hc2:w2.cell? ⟨b,off,none⟩=some (.int .i64 v):=(hb2.cell (p:=⟨b,off,none⟩) (by exact hlt)).trans hc0)
     all_goals
      go_wp2_with fail
      go_ret2
      exact⟨_,_,_,rfl,hs,hn',⟨hb2.os,hb2.tape,hb2.output,hb2.size,hb2.block⟩⟩
   · have KC:=Lib.hid (fun w c (hw:Below W.heap.size W w)=>Clone_is _ (n-1) c l.tail w (HT.out.below hw) (by omega))
     go_enter Tryz.func56,Tryz.ntmps56
     go_wp2_with fail
     go_region_with (go_at_call 71;refine(KC.out _ _ (by exact(Below.refl _ _).drew)).mono ?_;rintro e w2 ⟨a',n',c',rfl,hs,hn',hb2⟩;have hc2:w2.cell? ⟨b,off,none⟩=some (.int .i64 v):=(hb2.cell (p:=⟨b,off,none⟩) (by exact hlt)).trans hc0)
     all_goals
      go_wp2_with fail
      go_ret2
      exact⟨_,_,_,rfl,hs,hn',⟨hb2.os,hb2.tape,hb2.output,hb2.size,hb2.block⟩⟩
end
section
open Go.RowKit
end
section
open Go.RowKit
theorem may_n3 {l:List Int} {n:Nat} (h:szE l=0) (hl:l.length=n):n≤3:=by have:=(szE_may.1 h).len;omega
theorem may_pr {l:List Int} (h:szE l=0):0≤pr l∧pr l≤4096:=⟨pr_nonneg (szE_may.1 h).nn,(szE_may.1 h).pr⟩
end
end Go.Proofs.YtbijncndjlmmdaaGreatDoor
namespace Go.Proofs.YtbijncndjlmmdaaGreatDoor
set_option linter.unusedVariables false
set_option linter.unusedSimpArgs false
def quo (l:List Int) (k:Int) (i:Nat):Int:=k/pr (l.drop i)
def plc (l:List Int) (k:Int) (i:Nat):Int:=quo l k (i+1)%l.getD i 0
def plL (l:List Int) (k:Int):List Int:=(List.range l.length).map (plc l k)
theorem plL_length (l:List Int) (k:Int):(plL l k).length=l.length:=by simp[plL]
theorem plL_get {l:List Int} {k:Int} {i:Nat} (h:i<l.length):(plL l k).getD i 0=plc l k i:=by
 rw[List.getD_eq_getElem?_getD,List.getElem?_eq_getElem (by rw[plL_length];exact h)];simp[plL]
theorem quo_last (l:List Int) (k:Int):quo l k l.length=k:=by unfold quo;simp[pr]
theorem quo_step {l:List Int} {k:Int} {i:Nat} (h:i<l.length) (hp:0≤pr (l.drop (i+1))):quo l k (i+1)/l.getD i 0=quo l k i:=by
 unfold quo
 rw[pr_drop h,Int.ediv_ediv_of_nonneg hp,Int.mul_comm]
theorem inL_of {l t:List Int} {n:Nat} (h:∀i,i<n→0≤t.getD i 0∧t.getD i 0<l.getD i 0):inL l t n=true:=by
 induction n with
 |zero=>rfl
 |succ n ih=>
  simp only[inL,Bool.and_eq_true,decide_eq_true_eq]
  exact⟨ih fun i hi=>h i (by omega),h n (by omega)⟩
theorem inL_not {l t:List Int} {n i:Nat} (hi:i<n) (h:t.getD i 0<0∨l.getD i 0≤t.getD i 0):inL l t n=false:=by
 rw[←Bool.not_eq_true]
 intro hh
 have:=inL_at hh hi
 omega
theorem plc_range {l:List Int} (h:AllPos l) (k:Int) {i:Nat} (hi:i<l.length):0≤plc l k i∧plc l k i<l.getD i 0:=
 ⟨Int.emod_nonneg _ (by have:=h.pos i hi;omega),Int.emod_lt_of_pos _ (h.pos i hi)⟩
theorem quo_nonneg {l:List Int} (h:AllPos l) {k:Int} (hk:0≤k) (i:Nat):0≤quo l k i:=Int.ediv_nonneg hk (by have:=h.drop i;omega)
theorem quo_le {l:List Int} (h:AllPos l) {k:Int} (hk:0≤k) (i:Nat):quo l k i≤k:=by
 have:=h.drop i
 exact Int.ediv_le_self _ hk
def sum (l t:List Int):Nat→Int
 | 0=>0
 |i+1=>sum l t i+t.getD i 0*pr (l.drop (i+1))
end Go.Proofs.YtbijncndjlmmdaaGreatDoor
namespace Go.Proofs.YtbijncndjlmmdaaGreatDoor
set_option linter.unusedVariables false
set_option linter.unusedSimpArgs false
theorem getD_rev {l:List Int} {i:Nat} (h:i<l.length):l.reverse.getD i 0=l.getD (l.length-1-i) 0:=by
 rw[List.getD_eq_getElem?_getD,List.getD_eq_getElem?_getD,List.getElem?_reverse h]
theorem pr_reverse:∀l:List Int,pr l.reverse=pr l
 |[]=>rfl
 |x::r=>by
  rw[List.reverse_cons,pr_append,pr_reverse r]
  simp only[pr]
  rw[Int.mul_one,Int.mul_comm]
theorem AllPos.turned {l:List Int} (h:AllPos l):AllPos l.reverse:=⟨fun j hj=>by
 rw[List.length_reverse]at hj
 rw[getD_rev hj]
 exact h.pos _ (by omega)⟩
def tno (l:List Int) (k:Int):Int:=hor l.reverse (plL l k).reverse l.length
theorem inL_turned {l:List Int} (h:AllPos l) (k:Int):inL l.reverse (plL l k).reverse l.reverse.length=true:=by
 refine inL_of fun i hi=> ?_
 rw[List.length_reverse]at hi
 rw[getD_rev hi,getD_rev (by rw[plL_length];exact hi),plL_length,plL_get (by omega)]
 exact plc_range h k (by omega)
theorem tno_range {l:List Int} (h:AllPos l) (k:Int):0≤tno l k∧tno l k<pr l:=by
 have g:=hor_range (n:=l.reverse.length) (Nat.le_refl _) (inL_turned h k)
 rw[List.take_length,pr_reverse,List.length_reverse]at g
 exact g
end Go.Proofs.YtbijncndjlmmdaaGreatDoor
namespace Go.Proofs.YtbijncndjlmmdaaGreatDoor
set_option linter.unusedVariables false
set_option linter.unusedSimpArgs false
section
variable {α:Type}
def its (es:List α) (k:Nat):List Nat→List α
 |[]=>[]
 |i::r=>(es.drop (i*k)).take k++its es k r
theorem its_append (es:List α) (k:Nat) (l m:List Nat):its es k (l++m)=its es k l++its es k m:=by
 induction l with
 |nil=>rfl
 |cons i r ih=>show _++its es k (r++m)=_++its es k r++its es k m;rw[ih,List.append_assoc]
theorem it_len {es:List α} {k n i:Nat} (he:es.length=n*k) (hi:i<n):((es.drop (i*k)).take k).length=k:=by
 have h:(i+1)*k≤n*k:=Nat.mul_le_mul_right k hi
 rw[Nat.add_mul]at h
 rw[List.length_take,List.length_drop]
 omega
theorem its_length {es:List α} {k n:Nat} (he:es.length=n*k) {l:List Nat} (hl:∀i∈l,i<n):(its es k l).length=l.length*k:=by
 induction l with
 |nil=>simp[its]
 |cons i r ih=>
  show(_++its es k r).length=_
  rw[List.length_append,ih fun j hj=>hl j (List.mem_cons_of_mem _ hj),it_len he (hl i (List.mem_cons_self ..)),List.length_cons,Nat.add_mul]
  omega
theorem its_run {es:List α} {k:Nat}:∀(m a:Nat),(a+m)*k≤es.length→its es k (List.range' a m)=(es.drop (a*k)).take (m*k)
 | 0,a,h=>by simp[its]
 |m+1,a,h=>by
  have e1:(m+1)*k=k+m*k:=by rw[Nat.add_mul];omega
  have e2:(a+1)*k=a*k+k:=by rw[Nat.add_mul];omega
  have e3:(a+1+m)*k≤es.length:=by rw[show a+1+m=a+(m+1)by omega];exact h
  rw[List.range'_succ]
  show(es.drop (a*k)).take k++its es k (List.range' (a+1) m)=_
  rw[its_run m (a+1) e3,e1,List.take_add,List.drop_drop,e2]
theorem its_all {es:List α} {k n:Nat} (he:es.length=n*k):its es k (List.range n)=es:=by
 rw[List.range_eq_range',its_run n 0 (by rw[Nat.zero_add];omega),Nat.zero_mul,List.drop_zero,←he,List.take_length]
def rvs_ (es:List α) (k n:Nat):List α:=its es k (List.range n).reverse
theorem rvs_length {es:List α} {k n:Nat} (he:es.length=n*k):(rvs_ es k n).length=n*k:=by
 unfold rvs_
 rw[its_length he (fun i hi=>by simpa using hi),List.length_reverse,List.length_range]
end
end Go.Proofs.YtbijncndjlmmdaaGreatDoor
namespace Go.Proofs.YtbijncndjlmmdaaGreatDoor
set_option linter.unusedVariables false
set_option linter.unusedSimpArgs false
section
variable {α:Type}
def kI (l:List Int):Nat:=(pr l.tail).toNat
def nI (l:List Int):Nat:=(l.getD 0 0).toNat
def Fits (l:List Int) (es:List α):Prop:=MayL l∧(es.length:Int)=pr l
theorem Fits.cut {l:List Int} {es:List α} (h:Fits l es) (hl:l≠[]):es.length=nI l*kI l:=by
 obtain⟨hm,he⟩:=h
 cases l with
 |nil=>exact absurd rfl hl
 |cons x r=>
  have hx:0≤x:=hm.nn 0 (by simp)
  have hr:0≤pr r:=pr_nonneg fun j hj=>hm.nn (j+1) (by simpa using hj)
  have e:pr (x::r)=x*pr r:=rfl
  rw[e]at he
  show _=x.toNat*(pr r).toNat
  have e2:((x.toNat*(pr r).toNat:Nat):Int)=x*pr r:=by
   rw[Int.natCast_mul,Int.toNat_of_nonneg hx,Int.toNat_of_nonneg hr]
  omega
def rvM (l:List Int) (es:List α):List α:=if l=[]∨es=[]then es else rvs_ es (kI l) (nI l)
theorem rvM_length {l:List Int} {es:List α} (h:Fits l es):(rvM l es).length=es.length:=by
 unfold rvM
 split
 · rfl
 · rename_i hc
   have he:=h.cut (fun e=>hc (.inl e))
   rw[rvs_length he,he]
def flM (l:List Int) (es:List α):List α:=(List.range es.length).filterMap fun j:Nat=>es[(tno l.reverse (j:Int)).toNat]?
theorem fl_get {l:List Int} {es:List α} (h:Fits l es) {j:Nat} (hj:j<es.length):(tno l.reverse j).toNat<es.length∧∃x,es[(tno l.reverse j).toNat]?=some x:=by
 have hp:0<pr l:=by have:=h.2;omega
 have ha:=(h.1.pos hp).turned
 obtain⟨h1,h2⟩:=tno_range ha (j:Int)
 rw[pr_reverse,←h.2]at h2
 have h3:(tno l.reverse j).toNat<es.length:=by omega
 exact⟨h3,_,List.getElem?_eq_getElem h3⟩
theorem filterMap_all {β γ:Type} {f:β→Option γ}:∀{l:List β},(∀x∈l,∃y,f x=some y)→(l.filterMap f).length=l.length∧∀i:Nat,(l.filterMap f)[i]?=l[i]?.bind f
 |[],_=>⟨rfl,fun i=>by simp⟩
 |x::r,h=>by
  obtain⟨y,hy⟩:=h x (List.mem_cons_self ..)
  obtain⟨h1,h2⟩:=filterMap_all (l:=r) fun z hz=>h z (List.mem_cons_of_mem _ hz)
  rw[List.filterMap_cons_some hy]
  refine⟨by simp[h1],fun i=> ?_⟩
  cases i with
  |zero=>simp[hy]
  |succ i=>simpa using h2 i
theorem flM_at {l:List Int} {es:List α} (h:Fits l es):(flM l es).length=es.length∧∀j:Nat,j<es.length→(flM l es)[j]?=es[(tno l.reverse j).toNat]?:=by
 obtain⟨h1,h2⟩:=filterMap_all (f:=fun j:Nat=>es[(tno l.reverse j).toNat]?) (l:=List.range es.length) fun x hx=>(fl_get h (List.mem_range.1 hx)).2
 refine⟨by unfold flM;rw[h1];simp,fun j hj=> ?_⟩
 unfold flM
 rw[h2]
 simp[List.getElem?_range hj]
theorem Fits.turned {l:List Int} {es:List α} (h:Fits l es):Fits l.reverse (flM l es):=by
 refine⟨?_,by rw[(flM_at h).1,pr_reverse];exact h.2⟩
 obtain⟨h1,h2,h3,h4⟩:=h.1
 refine⟨by simpa using h1,fun j hj=> ?_,fun j hj=> ?_,by rw[pr_reverse];exact h4⟩
 · rw[List.length_reverse]at hj
   rw[getD_rev hj];exact h2 _ (by omega)
 · rw[List.length_reverse]at hj
   rw[getD_rev hj];exact h3 _ (by omega)
def ctM (l:List Int) (es:List α) (a b:Nat):List α:=(es.drop (a*kI l)).take ((b-a)*kI l)
theorem ctM_length {l:List Int} {es:List α} (h:Fits l es) (hl:l≠[]) {a b:Nat} (hb:b≤nI l):(ctM l es a b).length=(b-a)*kI l:=by
 have he:=h.cut hl
 unfold ctM
 rw[List.length_take,List.length_drop,he,←Nat.sub_mul]
 exact Nat.min_eq_left (Nat.mul_le_mul_right _ (by omega))
end
end Go.Proofs.YtbijncndjlmmdaaGreatDoor

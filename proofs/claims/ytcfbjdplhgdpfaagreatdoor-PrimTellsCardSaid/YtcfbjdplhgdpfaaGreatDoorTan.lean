import Derived.Test.YtcfbjdplhgdpfaaGreatDoorTam
import Derived.Deep.AppendLies
set_option maxHeartbeats 800000
set_option maxRecDepth 10000
namespace Go.Proofs.YtcfbjdplhgdpfaaGreatDoor
set_option linter.unusedVariables false
set_option linter.unusedSimpArgs false
theorem zRn {P:Prop}(h:P:=by rw[hE];decide):P:=h
theorem zPn {P:Prop}(h:P:=by simpa using hj):P:=h
theorem zHn {P:Prop}(h:P:=by rw[←HX.out];omega):P:=h
theorem zAn {P:Prop}(h:P:=by rw[h.1];exact zR _):P:=h
theorem xVm {P:Prop}(h:P:=by rw[←HX.out];exact c1):P:=h
theorem xRm {P:Prop}(h:P:=by rw[HS.out.1];exact hn):P:=h
theorem xNm {P:Prop}(h:P:=by rw[HS.out.1];exact hlt):P:=h
theorem yWm {P:Prop}(h:P:=by have:=h 0 yHn;simpa using this):P:=h
abbrev zO2:=@List.mem_cons_self
abbrev zN2:=@List.mem_cons_of_mem
abbrev zG2:=@Go.Exit.noGoto_ret
abbrev zE2:=@Int.mul_le_mul_of_nonneg_right
abbrev zD2:=@Int.mul_le_mul_of_nonneg_left
abbrev yY1:=@List.length_reverse
abbrev xU0:=@List.getElem?_reverse
abbrev xT0:=@List.getElem?_range
abbrev xP0:=@Bool.not_eq_true
abbrev xN0:=@Bool.eq_false_or_eq_true
abbrev yO0:=@List.length_eq_zero_iff
abbrev yY:=@List.length_tail
abbrev yU:=@Go.World.block_lt_of_cell?
abbrev yP:=@List.getElem_of_mem
abbrev zW:=@Nat.lt_succ_self
section
section
def pr:List Int→Int
 |[]=>1
 |a::r=>a*pr r
theorem zF9 (l m:List Int):pr (l++m)=pr l*pr m:=by
 induction l with
 |nil=>simp[pr]
 |cons a r ih=>simp only[zW1,pr,ih,Int.mul_assoc]
theorem zG9 {l:List Int} {k:Nat} (h:k<l.length):l.take (k+1)=l.take k++[l.getD k 0]:=by
 rw[yE0 h,yJ,yM h];rfl
theorem zH9 {l:List Int} {k:Nat} (h:k<l.length):l.drop k=l.getD k 0::l.drop (k+1):=by
 rw[xL1 h,yJ,yM h];rfl
theorem zI9 {l:List Int} {k:Nat} (h:k<l.length):pr (l.take (k+1))=pr (l.take k)*l.getD k 0:=by
 rw[zG9 h,zF9];simp[pr]
theorem zJ9 {l:List Int} {k:Nat} (h:k<l.length):pr (l.drop k)=l.getD k 0*pr (l.drop (k+1)):=by
 rw[zH9 h];rfl
theorem zK9:∀{l:List Int},(∀j,j<l.length→0≤l.getD j 0)→0≤pr l
 |[],_=>by simp[pr]
 |a::r,h=>zC2 yWm (zK9 fun j hj=>by have:=h (j+1) zPn;simpa using this)
theorem zL9:∀{l:List Int},(∀j,j<l.length→0<l.getD j 0)→0<pr l
 |[],_=>by simp[pr]
 |a::r,h=>Int.mul_pos yWm (zL9 fun j hj=>by have:=h (j+1) zPn;simpa using this)
theorem zM9 {l:List Int} {j k:Nat} (h:j<k):(l.take k).getD j 0=l.getD j 0:=by
 simp only[yJ,yU0 h]
theorem zN9 (l:List Int) (j k:Nat):(l.drop k).getD j 0=l.getD (k+j) 0:=by
 simp only[yJ,xE0]
def zO9 (l:List Int):Bool:=l.any fun x=>decide (x<0)
def zP9 (l:List Int):Bool:=l.any fun x=>decide (1099511627776<x)
def szE (l:List Int):Int:=if 3<l.length then 3 else if zO9 l then 5 else if zP9 l then 8 else if 4096<pr l then 8 else 0
def szV (l:List Int):Int:=if szE l=0 then pr l else 0
theorem zQ9 {p:Int→Bool} {l:List Int}:l.any p=true↔∃j,j<l.length∧p (l.getD j 0)=true:=by
 rw[List.any_eq_true];constructor
 · rintro⟨x,hx,h⟩
   obtain⟨j,hj,rfl⟩:=yP hx;exact⟨j,hj,by rw[yJ,yM hj];exact h⟩
 · rintro⟨j,hj,h⟩
   rw[yJ,yM hj]at h;exact⟨_,xH hj,h⟩
theorem zR9 {l:List Int} {j:Nat} (hj:j<l.length) (h:l.getD j 0<0):zO9 l=true:=zQ9.2 ⟨j,hj,by simpa using h⟩
theorem zS9 {l:List Int} (h:∀j,j<l.length→0≤l.getD j 0):zO9 l=false:=by
 rw[←xP0];intro hh;obtain⟨j,hj,h2⟩:=zQ9.1 hh;have:=h j hj;simp only[zI1]at h2;omega
theorem zT9 {l:List Int} (h:zO9 l=false):∀j,j<l.length→0≤l.getD j 0:=by
 intro j hj;rcases zT1 (l.getD j 0) 0 with h0|h0
 · rw[zR9 hj h0]at h;cases h
 · exact h0
theorem zU9 {l:List Int} {j:Nat} (hj:j<l.length) (h:1099511627776<l.getD j 0):zP9 l=true:=zQ9.2 ⟨j,hj,by simpa using h⟩
theorem zV9 {l:List Int} (h:∀j,j<l.length→l.getD j 0≤1099511627776):zP9 l=false:=by
 rw[←xP0];intro hh;obtain⟨j,hj,h2⟩:=zQ9.1 hh;have:=h j hj;simp only[zI1]at h2;omega
theorem zW9 {l:List Int} (h:zP9 l=false):∀j,j<l.length→l.getD j 0≤1099511627776:=by
 intro j hj;rcases zT1 1099511627776 (l.getD j 0)with h0|h0
 · rw[zU9 hj h0]at h;cases h
 · exact h0
theorem zX9 {l:List Int} (h:3<l.length):szE l=3:=by unfold szE;rw[yA h]
theorem zY9 {l:List Int} (h:l.length≤3) (hn:zO9 l=true):szE l=5:=by unfold szE;rw[zY yEn,yA hn]
theorem zZ9 {l:List Int} (h:l.length≤3) (hn:zO9 l=false) (hb:zP9 l=true):szE l=8:=by unfold szE;rw[zY yEn,hn,zY yCn,yA hb]
theorem yA9 {l:List Int} (h:l.length≤3) (hn:zO9 l=false) (hb:zP9 l=false) (hp:4096<pr l):szE l=8:=by unfold szE;rw[zY yEn,hn,hb,zY yCn,zY yCn,yA hp]
theorem yB9 {l:List Int} (h:l.length≤3) (hn:zO9 l=false) (hb:zP9 l=false) (hp:pr l≤4096):szE l=0:=by unfold szE;rw[zY yEn,hn,hb,zY yCn,zY yCn,zY yEn]
theorem yC9 {l:List Int} (h:szE l≠0):szV l=0:=zY h
theorem yD9 {l:List Int} (h:szE l=0):szV l=pr l:=yA h
structure MayL (l:List Int):Prop where
 len:l.length≤3
 nn:∀j,j<l.length→0≤l.getD j 0
 le:∀j,j<l.length→l.getD j 0≤1099511627776
 pr:pr l≤4096
theorem yE9 {l:List Int}:szE l=0↔MayL l:=by
 constructor
 · intro h
   rcases zM1 3 l.length with h1|h1
   · rw[zX9 h1]at h;cases h
   · rcases xN0 (zO9 l)with h2|h2
     · rw[zY9 h1 h2]at h;cases h
     · rcases xN0 (zP9 l)with h3|h3
       · rw[zZ9 h1 h2 h3]at h;cases h
       · rcases zT1 4096 (pr l)with h4|h4
         · rw[yA9 h1 h2 h3 h4]at h;cases h
         · exact⟨h1,zT9 h2,zW9 h3,h4⟩
 · rintro⟨h1,h2,h3,h4⟩
   exact yB9 h1 (zS9 h2) (zV9 h3) h4
structure SzInv (l:List Int) (k:Nat) (sz er:Int):Prop where
 nn:∀j,j<k→0≤l.getD j 0
 er:(er=0∧(∀j,j<k→l.getD j 0≤1099511627776)∧sz=min (pr (l.take k)) 4097)∨(er=8∧∃j,j<k∧1099511627776<l.getD j 0)
 lo:0≤sz
 hi:sz≤4097
theorem SzInv.start (l:List Int):SzInv l 0 1 0:=⟨fun _ h=>by omega,.inl ⟨rfl,fun _ h=>by omega,by show(1:Int)=min 1 4097;decide⟩,by decide,by decide⟩
theorem yF9 {p x s:Int} (hp:0≤p) (hx:0≤x) (hs:s=min p 4097):min (s*x) 4097=min (p*x) 4097:=by
 rcases zT1 4097 p with h|h
 · have e:s=4097:=by omega
   rcases zT1 0 x with h0|h0
   · have h1:4097*1≤4097*x:=zD2 yEn yCn
     have h2:4097*x≤p*x:=zE2 yEn hx;rw[e];omega
   · have:x=0:=by omega
     subst this;simp
 · rw[hs,Int.min_eq_left h]
theorem SzInv.step {l:List Int} {k:Nat} {sz er:Int} (h:SzInv l k sz er) (hk:k<l.length) (h0:0≤l.getD k 0) (h1:l.getD k 0≤1099511627776):SzInv l (k+1) (min (sz*l.getD k 0) 4097) er:=by
 have hm:0≤sz*l.getD k 0:=zC2 h.lo h0;refine⟨fun j hj=> ?_,?_,by omega,by omega⟩
 · rcases zM1 j k with h2|h2
   · exact h.nn j h2
   · rw[show j=k by omega];exact h0
 · rcases h.er with⟨e,h2,h3⟩|⟨e,j,h2,h3⟩
   · refine .inl ⟨e,fun j hj=> ?_,?_⟩
     · rcases zM1 j k with h4|h4
       · exact h2 j h4
       · rw[show j=k by omega];exact h1
     · rw[zI9 hk]
       exact yF9 (zK9 fun j hj=>by rw[xP]at hj;rw[zM9 yEn];exact h.nn j yEn) h0 h3
   · exact .inr ⟨e,j,by omega,h3⟩
theorem SzInv.big {l:List Int} {k:Nat} {sz er:Int} (h:SzInv l k sz er) (h1:1099511627776<l.getD k 0):SzInv l (k+1) sz 8:=by
 refine⟨fun j hj=> ?_,.inr ⟨rfl,k,by omega,h1⟩,h.lo,h.hi⟩;rcases zM1 j k with h2|h2
 · exact h.nn j h2
 · rw[show j=k by omega];omega
theorem SzInv.ends {l:List Int} {sz er:Int} (h:SzInv l l.length sz er) (hl:l.length≤3):
 (er=8∧szE l=8∧szV l=0)∨(er=0∧4096<sz∧szE l=8∧szV l=0)∨(er=0∧sz≤4096∧szE l=0∧szV l=sz):=by
 have hn:=zS9 h.nn;rcases h.er with⟨e,h2,h3⟩|⟨e,j,h2,h3⟩
 · rw[yW (zR _)]at h3
   have hb:=zV9 h2;rcases zT1 4096 (pr l)with h4|h4
   · have h5:=yA9 hl hn hb h4
     exact .inr (.inl ⟨e,by omega,h5,yC9 (by rw[h5];decide)⟩)
   · have h5:=yB9 hl hn hb h4
     exact .inr (.inr ⟨e,by omega,h5,by rw[yD9 h5];omega⟩)
 · have h5:=zZ9 hl hn (zU9 h2 h3)
   exact .inl ⟨e,h5,yC9 (by rw[h5];decide)⟩
def hor (l t:List Int):Nat→Int
 | 0=>0
 |i+1=>hor l t i*l.getD i 0+t.getD i 0
def inL (l t:List Int):Nat→Bool
 | 0=>true
 |i+1=>inL l t i&&(decide (0≤t.getD i 0)&&decide (t.getD i 0<l.getD i 0))
def ofB (l t:List Int):Bool:=decide (szE l=0)&&decide (l.length=t.length)&&inL l t l.length
def ofV (l t:List Int):Int:=if ofB l t then hor l t l.length else 0
theorem yG9 {l t:List Int} {n:Nat} (h:inL l t n=true) {i:Nat} (hi:i<n):0≤t.getD i 0∧t.getD i 0<l.getD i 0:=by
 induction n with
 |zero=>omega
 |succ n ih=>
  simp only[inL,zG1,zI1]at h;rcases zM1 i n with h1|h1
  · exact ih h.1 h1
  · rw[show i=n by omega];exact h.2
theorem yH9 {l t:List Int} {n:Nat} (hn:n≤l.length) (h:inL l t n=true):0≤hor l t n∧hor l t n<pr (l.take n):=by
 induction n with
 |zero=>simp[hor,pr]
 |succ n ih=>
  have h1:=yG9 h (zW n);simp only[inL,zG1]at h;obtain⟨a,b⟩:=ih yEn h.1;rw[zI9 yEn];have h2:0≤hor l t n*l.getD n 0:=zC2 a yEn;have h3:(hor l t n+1)*l.getD n 0≤pr (l.take n)*l.getD n 0:=zE2 yEn yEn;rw[Int.add_mul,zF2]at h3;show 0≤hor l t n*l.getD n 0+t.getD n 0∧hor l t n*l.getD n 0+t.getD n 0<_;omega
structure AllPos (l:List Int):Prop where
 pos:∀j,j<l.length→0<l.getD j 0
theorem AllPos.drop {l:List Int} (h:AllPos l) (k:Nat):0<pr (l.drop k):=zL9 fun j hj=>by rw[zN9];exact h.pos _ (by rw[xB0]at hj;omega)
theorem AllPos.take {l:List Int} (h:AllPos l) (k:Nat):0<pr (l.take k):=zL9 fun j hj=>by rw[xP]at hj;rw[zM9 yEn];exact h.pos _ yEn
theorem yI9 {l:List Int} {j:Nat} (hj:j<l.length) (h:l.getD j 0=0):pr l=0:=by
 have e:=yN1 j l;rw[←e,zF9,zJ9 hj,h];simp
theorem MayL.pos {l:List Int} (h:MayL l) (hp:0<Go.Proofs.YtcfbjdplhgdpfaaGreatDoor.pr l):AllPos l:=by
 refine⟨fun j hj=> ?_⟩;have h0:=h.nn j hj;rcases zT1 0 (l.getD j 0)with h1|h1
 · exact h1
 · rw[yI9 hj yEn]at hp;omega
theorem AllPos.take_le {l:List Int} (h:AllPos l) (k:Nat):Go.Proofs.YtcfbjdplhgdpfaaGreatDoor.pr (l.take k)≤Go.Proofs.YtcfbjdplhgdpfaaGreatDoor.pr l:=by
 have e:Go.Proofs.YtcfbjdplhgdpfaaGreatDoor.pr l=Go.Proofs.YtcfbjdplhgdpfaaGreatDoor.pr (l.take k)*Go.Proofs.YtcfbjdplhgdpfaaGreatDoor.pr (l.drop k):=by rw[←zF9,yN1]
 have h1:=h.take k;have h2:=h.drop k;have h3:Go.Proofs.YtcfbjdplhgdpfaaGreatDoor.pr (l.take k)*1≤Go.Proofs.YtcfbjdplhgdpfaaGreatDoor.pr (l.take k)*Go.Proofs.YtcfbjdplhgdpfaaGreatDoor.pr (l.drop k):=zD2 yEn yEn;omega
end
section
open Go.RowKit
def Sl (W:World) (a:Option Addr) (n:Nat) (l:List Int):Prop:=
 l.length=n∧(0<n→∃b off,a=some ⟨b,off,none⟩∧∀j,j<n→W.cell? ⟨b,off+j,none⟩=some (.int .i64 (l.getD j 0)))
theorem Sl.below {W W':World} {a:Option Addr} {n:Nat} {l:List Int} (h:Sl W a n l) (hb:Below W.heap.size W W'):Sl W' a n l:=by
 refine⟨h.1,fun hn=> ?_⟩;obtain⟨b,off,e,hc⟩:=h.2 hn;exact⟨b,off,e,fun j hj=>(hb.cell (show(⟨b,off+j,none⟩:Addr).block<W.heap.size from yU W _ (hc j hj))).trans (hc j hj)⟩
theorem Sl.nil (W:World) (a:Option Addr):Sl W a 0 []:=⟨rfl,fun h=>by omega⟩
theorem w64 {x:Int} (h0: -9223372036854775808≤x) (h1:x≤9223372036854775807):wrap64 x=x:=by unfold wrap64;omega
def yJ9 (f:Nat) (a:Option Addr) (n c:Nat) (v e:Int) (W:World):Prop:=
 Calls Tryz.prog f #[.slice a n c] W fun x W'=>x=.returned (.tuple #[.int .i64 v,.int .i64 e])∧W=W'
theorem yK9 (a:Option Addr) (n c:Nat) (W:World) (hn:3<n):yJ9 43 a n c 0 3 W:=by
 have e1:(3:Int)<(n:Int):=by omega
 unfold yJ9;go_in;go_wp2_with fail;go_step3
 go_wp2_with fail
 try rw[zG2]
 go_ret2;exact⟨rfl,rfl⟩
theorem yL9 (a:Option Addr) (n c:Nat) (l:List Int) (W:World) (h:Sl W a n l) (hn:n≤3):yJ9 43 a n c (szV l) (szE l) W:=by
 have e1:¬(3:Int)<(n:Int):=by omega
 obtain⟨v,hv⟩:∃v,v=szV l:=⟨_,rfl⟩
 obtain⟨e,he⟩:∃e,e=szE l:=⟨_,rfl⟩
 rw[←hv,←he];have HV:=zC hv;have HE:=zC he;have HS:=zC h;clear hv he h;unfold yJ9;go_in;go_wp2_with fail;go_step3
 go_wp2_with fail;go_step3
 go_wp2_with fail;go_loop [4,5,13] (fun s r i=>∃(k:Nat) (sz er:Int),i=.int .i64 k∧s=.int .i64 sz∧r=.int .i64 er∧k≤n∧SzInv l k sz er) (fun _ _ i=>n-(intOf i).toNat)
 case atStart=>exact⟨0,1,0,rfl,rfl,rfl,by omega,SzInv.start l⟩
 case round=>
  obtain⟨k,sz,er,rfl,rfl,rfl,hk,hI⟩:=hrel;have HI:=zC hI;clear hI;by_cases hlt:k<n
  · have e2:(k:Int)<(n:Int):=by omega
    obtain⟨b,off,rfl,hc⟩:=HS.out.2 yEn;have hck:=hc k hlt;have HC:=zC hc;clear hc;obtain⟨x,hx⟩:∃x,x=l.getD k 0:=⟨_,rfl⟩
    rw[←hx]at hck;have HX:=zC hx;clear hx;by_cases c1:x<0
    · have hE:=zY9 xRm (zR9 (j:=k) xNm xVm)
      have hV:=yC9 (l:=l) zRn;obtain rfl:e=5:=HE.out.trans hE;obtain rfl:v=0:=HV.out.trans hV;clear hE hV;go_wp2_with fail
      try rw[zG2]
      go_ret2;exact⟨rfl,rfl⟩
    by_cases c2:1099511627776<x
    · go_wp2_with fail
      go_round
      case rel=>exact⟨k+1,sz,8,by go_num,rfl,rfl,by omega,HI.out.big (by rw[←HX.out];exact c2)⟩
      case measure=>simp[intOf];omega
    · have hst:=HI.out.step xNm zHn zHn
      have hm:0≤sz*x:=zC2 HI.out.lo yEn;have hm2:sz*x≤4097*x:=zE2 HI.out.hi yEn;rw[←HX.out,←w64 (x:=sz*x) yEn yEn]at hst;have HT:=zC hst;clear hst hm hm2;go_wp2_with fail;go_round
      case rel=>exact⟨k+1,_,er,by go_num,rfl,rfl,by omega,HT.out⟩
      case measure=>simp[intOf];omega
  · have e2:¬(k:Int)<(n:Int):=by omega
    obtain rfl:k=n:=by omega
    have hen:=(show SzInv l l.length sz er by rw[HS.out.1];exact HI.out).ends xRm;rcases hen with⟨rfl,hE,hV⟩|⟨rfl,c3,hE,hV⟩|⟨rfl,c3,hE,hV⟩
    · obtain rfl:e=8:=HE.out.trans hE
      obtain rfl:v=0:=HV.out.trans hV;clear hE hV;go_wp2_with fail
      try rw[zG2]
      go_ret2;exact⟨rfl,rfl⟩
    · obtain rfl:e=8:=HE.out.trans hE
      obtain rfl:v=0:=HV.out.trans hV;clear hE hV;go_wp2_with fail
      try rw[zG2]
      go_ret2;exact⟨rfl,rfl⟩
    · obtain rfl:e=0:=HE.out.trans hE
      obtain rfl:v=sz:=HV.out.trans hV;clear hE hV;have c4:¬4096<v:=by omega
      go_wp2_with fail
      try rw[zG2]
      go_ret2;exact⟨rfl,rfl⟩
theorem yM9 (a:Option Addr) (n c:Nat) (l:List Int) (W:World) (h:Sl W a n l):yJ9 43 a n c (szV l) (szE l) W:=by
 rcases zM1 3 n with h3|h3
 · have e:=zX9 (l:=l) (by rw[h.1];exact h3)
   rw[e,yC9 (by rw[e];decide)];exact yK9 a n c W h3
 · exact yL9 a n c l W h h3
theorem yN9 (a:Option Addr) (n c:Nat) (l:List Int) (W:World) (h:Sl W a n l) (b:Bool) (hb:b=(szE l==0)):
 Calls Tryz.prog 139 #[.slice a n c] W fun x W'=>x=.returned (.bool b)∧W=W':=by
 have hs:=yM9 a n c l W h;unfold yJ9 at hs;have K:=zC hs;clear hs h;subst hb;go_in;go_wp2_with fail;refine K.out.mono ?_;rintro x w1 ⟨rfl,rfl⟩;go_wp2_with fail;go_ret;exact⟨rfl,rfl⟩
theorem yO9 (a1 a2:Option Addr) (n c m d:Nat) (l k:List Int) (W:World) (h1:Sl W a1 n l) (h2:Sl W a2 m k) (hn:n≤9223372036854775807) (hm:m≤9223372036854775807):
 Calls Tryz.prog 91 #[.slice a1 n c,.slice a2 m d] W fun x W'=>x=.returned (.bool (l==k))∧Below W.heap.size W W':=by
 by_cases hnm:n=m
 · subst hnm
   by_cases h0:n=0
   · subst h0
     have e1:=yO0.1 h1.1;have e2:=yO0.1 h2.1;subst e1 e2;refine(Tryz.slices_Equal_int_empty a1 a2 c 0 d W yCn).mono ?_;rintro x w ⟨rfl,rfl⟩;exact⟨rfl,zI _ _⟩
   · obtain⟨b1,o1,rfl,hc1⟩:=h1.2 yEn
     obtain⟨b2,o2,rfl,hc2⟩:=h2.2 yEn;refine(Tryz.slices_Equal_int b1 o1 n c b2 o2 n d l k W (by rw[h1.1];exact zR _) (by rw[h2.1];exact zR _) hn hm (fun j hj=>hc1 j (by rw[←h1.1];exact hj)) (fun j hj=>hc2 j (by rw[←h2.1];exact hj))).mono ?_;rintro x w ⟨rfl,q,rfl⟩;refine⟨?_,⟨rfl,rfl,rfl,zR _,fun _ _=>rfl⟩⟩;rw[yW (by rw[h1.1];exact zR _),yW (by rw[h2.1];exact zR _)]
 · refine(Tryz.slices_Equal_int_lens a1 a2 n c m d W hnm).mono ?_
   rintro x w ⟨rfl,rfl⟩;refine⟨?_,zI _ _⟩;have:(l==k)=false:=zT0.2 (by rintro rfl;exact hnm (h1.1.symm.trans h2.1));rw[this]
theorem yP9 (a1 a2:Option Addr) (n c m d:Nat) (l k:List Int) (W:World) (h1:Sl W a1 n l) (h2:Sl W a2 m k) (hn:n≤1000000) (hm:m≤1000000):
 Calls Tryz.prog 41 #[.slice a1 n c,.slice a2 m d] W fun x W'=>x=.returned (.bool (l==k))∧Below W.heap.size W W':=by
 have K:=zC (yO9 a1 a2 n c m d l k W h1 h2 yEn yEn);obtain⟨b,hb⟩:∃b,b=(l==k):=⟨_,rfl⟩
 rw[←hb]at K ⊢;clear hb h1 h2;go_in;go_wp2_with fail;refine K.out.mono ?_;rintro x w1 ⟨rfl,hb⟩;go_wp2_with fail;go_ret;exact⟨rfl,hb⟩
end
section
open Go.RowKit
structure R1 (l:List Int) (k:Nat) (b:Bool):Prop where
 nn:∀j,j<k→0≤l.getD j 0
 z:b=true↔∃j,j<k∧l.getD j 0=0
theorem R1.start (l:List Int):R1 l 0 false:=⟨fun _ h=>by omega,by constructor<;>intro h;(cases h);(obtain⟨_,h,_⟩:=h;omega)⟩
theorem R1.step {l:List Int} {k:Nat} {b:Bool} (h:R1 l k b) (h0:0≤l.getD k 0):R1 l (k+1) (b||l.getD k 0==0):=by
 refine⟨fun j hj=> ?_,?_⟩
 · rcases zM1 j k with h2|h2
   · exact h.nn j h2
   · rw[show j=k by omega];exact h0
 · rw[Bool.or_eq_true,h.z,beq_iff_eq]
   constructor
   · rintro(⟨j,hj,e⟩|e)
     · exact⟨j,by omega,e⟩
     · exact⟨k,by omega,e⟩
   · rintro⟨j,hj,e⟩
     rcases zM1 j k with h2|h2
     · exact .inl ⟨j,h2,e⟩
     · exact .inr (by rw[show k=j by omega];exact e)
theorem R1.pos {l:List Int} (h:R1 l l.length false):AllPos l:=⟨fun j hj=>by
 have h0:=h.nn j hj;rcases zT1 0 (l.getD j 0)with h1|h1
 · exact h1
 · have:=h.z.2 ⟨j,hj,by omega⟩;cases this⟩
end
section
open Go.RowKit
def SDrawn (w w':World):Prop:=∃n,w'=w.drewN n
theorem SDrawn.refl (w:World):SDrawn w w:=⟨0,rfl⟩
theorem SDrawn.cell {w w':World} (h:SDrawn w w') (a:Addr):w'.cell? a=w.cell? a:=by obtain⟨n,rfl⟩:=h;rfl
theorem SDrawn.below {w w':World} (h:SDrawn w w'):Below w.heap.size w w':=by obtain⟨n,rfl⟩:=h;exact⟨rfl,rfl,rfl,zR _,fun _ _=>rfl⟩
theorem SDrawn.more {w w':World} (h:SDrawn w w') (n:Nat):SDrawn w (w'.drewN n):=by
 obtain⟨m,rfl⟩:=h;exact⟨m+n,by unfold World.drewN;simp[xC0]⟩
def OfInv (l t:List Int) (k:Nat) (v:Int):Prop:=inL l t k=true∧(AllPos l→v=hor l t k)
theorem OfInv.start (l t:List Int):OfInv l t 0 0:=⟨rfl,fun _=>rfl⟩
theorem OfInv.step {l t:List Int} (hm:MayL l) {k:Nat} {v:Int} (h:OfInv l t k v) (hk:k<l.length) (h0:0≤t.getD k 0) (h1:t.getD k 0<l.getD k 0):OfInv l t (k+1) (wrap64 (wrap64 (v*l.getD k 0)+t.getD k 0)):=by
 have hi:inL l t (k+1)=true:=by simp only[inL,h.1,Bool.true_and,zG1,zI1];exact⟨h0,h1⟩
 refine⟨hi,fun hp=> ?_⟩;have hr:=yH9 (l:=l) (t:=t) (n:=k+1) yEn hi;have hle:=hp.take_le (k+1);have hpr:=hm.pr;rw[h.2 hp];have e:hor l t (k+1)=hor l t k*l.getD k 0+t.getD k 0:=rfl;rw[e]at hr ⊢;have hr0:=yH9 (l:=l) (t:=t) (n:=k) yEn h.1;have h2:0≤hor l t k*l.getD k 0:=zC2 hr0.1 yEn;rw[w64 (x:=hor l t k*l.getD k 0) yEn yEn,w64 yEn yEn]
theorem OfInv.ends {l t:List Int} {v:Int} (h:OfInv l t l.length v) (hm:MayL l) (hl:l.length=t.length):ofB l t=true∧ofV l t=v:=by
 have hp:AllPos l:=⟨fun j hj=>by have:=yG9 h.1 hj;omega⟩
 have e:ofB l t=true:=by unfold ofB;rw[yE9.2 hm,hl.symm,h.1];simp
 exact⟨e,by unfold ofV;rw[yA e,h.2 hp]⟩
end
section
open Go.RowKit
theorem yQ9 {l k:List Int} (hn:l.length=k.length) (h:∀j,j<l.length→l.getD j 0=k.getD j 0):l=k:=by
 refine xA1 hn fun i h1 h2=> ?_;have:=h i h1;rwa [yJ,yJ,yM h1,yM h2]at this
theorem yR9 (a1 a2:Option Addr) (n c m d:Nat) (l k:List Int) (W:World) (h1:Sl W a1 n l) (h2:Sl W a2 m k) (hn:n≤1000000) (hm:m≤1000000) (b:Bool) (hb:b=(l==k)):
 Calls Tryz.prog 83 #[.slice a1 n c,.slice a2 m d] W fun x W'=>x=.returned (.bool b)∧SDrawn W W':=by
 have HB:=zC hb;have H1:=zC h1;have H2:=zC h2;clear hb h1 h2;by_cases hnm:n=m
 · subst hnm
   go_in;go_wp2_with fail;go_loopw [5] (fun i wr=>∃q:Nat,i=.int .i64 q∧q≤n∧Hid (∀j,j<q→l.getD j 0=k.getD j 0)∧SDrawn W wr) (fun i _=>n-(intOf i).toNat)
   case atStart=>exact⟨0,rfl,by omega,zC (fun j hj=>by omega),SDrawn.refl _⟩
   case round=>
    obtain⟨q,rfl,hq,HI,HD⟩:=hrel;have HW:=zC HD;clear HD;by_cases hlt:q<n
    · have e2:(q:Int)<(n:Int):=by omega
      obtain⟨b1,o1,rfl,hc1⟩:=H1.out.2 yEn;obtain⟨b2,o2,rfl,hc2⟩:=H2.out.2 yEn;have hk1:=(HW.out.cell _).trans (hc1 q hlt);have hk2:=(HW.out.cell _).trans (hc2 q hlt);clear hc1 hc2;obtain⟨x,hx⟩:∃x,x=l.getD q 0:=⟨_,rfl⟩
      obtain⟨y,hy⟩:∃y,y=k.getD q 0:=⟨_,rfl⟩
      rw[←hx]at hk1;rw[←hy]at hk2;have HX:=zC hx;have HY:=zC hy;clear hx hy;by_cases c1:x=y
      · subst c1
        go_wp2_with fail;go_quiet (fail)
        go_wp2_with fail;go_roundw
        case rel=>
         refine⟨q+1,by go_num,by omega,zC fun j hj=> ?_,HW.out.more _⟩;rcases zM1 j q with h2|h2
         · exact HI.out j h2
         · rw[show j=q by omega,←HX.out,←HY.out]
        case measure=>simp[intOf];omega
      · have hne:(l==k)=false:=zT0.2 (by rintro rfl;exact c1 (HX.out.trans HY.out.symm))
        obtain rfl:b=false:=HB.out.trans hne;clear hne;have c2:(x==y)=false:=zT0.2 c1;go_wp2_with fail;go_quiet (fail)
        go_wp2_with fail;go_ret;exact⟨rfl,HW.out.more _⟩
    · have e2:¬(q:Int)<(n:Int):=by omega
      have heq:l=k:=yQ9 (by rw[H1.out.1,H2.out.1]) (fun j hj=>HI.out j (by rw[H1.out.1]at hj;omega));obtain rfl:b=true:=HB.out.trans (by rw[heq];exact zH2 _);clear heq;go_wp2_with fail;go_ret;exact⟨rfl,HW.out⟩
 · have hne:(l==k)=false:=zT0.2 (by rintro rfl;exact hnm (H1.out.1.symm.trans H2.out.1))
   obtain rfl:b=false:=HB.out.trans hne;clear hne;have e2:(n:Int)≠(m:Int):=by omega
   go_in;go_wp2_with fail;go_ret;exact⟨rfl,SDrawn.refl _⟩
end
section
open Go.RowKit
def SRw (w:World) (g N:Nat) (F:Nat→Int):Prop:=w.rowIs g 3 N (fun j=>Value.int .i64 (F j))
theorem SRw.cell {w:World} {g N:Nat} {F:Nat→Int} (h:SRw w g N F) {i:Nat} (hi:i<N):w.cell? ⟨g,i,none⟩=some (.int .i64 (F i)):=World.rowIs.cell h hi
end
section
open Go.RowKit
def yS9 (l:List Int):List Value:=l.map (Value.int .i64)
theorem yT9 {w:World} {base n:Nat} {v:Value} {l:List Int} (h:w.ownsRow base 3 1 v n (yS9 l)):∃a c,v=.slice a n c∧Sl w a n l:=by
 obtain⟨hl,h⟩:=h;unfold yS9 at hl h;rw[zD0,yS0]at hl;rcases h with⟨rfl,rfl⟩|⟨g,cap,cur,rfl,_,hg,_,_,_,ht⟩
 · exact⟨none,0,rfl,hl,fun h=>by omega⟩
 · refine⟨_,cap,rfl,hl,fun _=>⟨g,0,rfl,fun j hj=> ?_⟩⟩
   rw[yS0]at ht;rw[zP0,yB0 w g j cur _ _ hg,←yV0];have e:cur.toList[j]?=(cur.toList.take n)[j]?:=by rw[yU0 hj]
   rw[e,ht,xS0,yM yEn];simp[yM (show j<l.length by omega)]
theorem yU9 {w:World} {base n:Nat} {v:Value} {xs:List Value} (h:w.ownsRow base 3 1 v n xs):∃a c,v=.slice a n c:=by
 rcases h.2 with⟨rfl,rfl⟩|⟨g,cap,_,rfl,_⟩
 · exact⟨_,_,rfl⟩
 · exact⟨_,_,rfl⟩
end
section
open Go.RowKit
def yV9 (l:List Int) (W:World) (x:Ending) (W':World):Prop:=∃a' n' c',x=.returned (.slice a' n' c')∧Sl W' a' n' l∧n'≤20∧Below W.heap.size W W'
theorem yW9 (a:Option Addr) (n c:Nat) (l:List Int) (W:World) (h:Sl W a n l) (hn:n≤20):Calls Tryz.prog 100 #[.slice a n c] W (yV9 l W):=by
 rcases a with _|a
 · have h0:n=0:=by
    rcases yL0 n with h0|h0
    · exact h0
    · obtain⟨b,off,e,_⟩:=h.2 h0;cases e
   subst h0;obtain rfl:=yO0.1 h.1;refine(Tryz.slices_Clone_int_nil 0 c W).mono ?_;rintro x w ⟨rfl,rfl⟩;exact⟨none,0,0,rfl,Sl.nil _ _,by omega,zI _ _⟩
 · by_cases h0:n=0
   · subst h0
     obtain rfl:=yO0.1 h.1;refine(Tryz.slices_Clone_int_zero a c W).mono ?_;rintro x w ⟨v',rfl,hown,_,hb⟩;obtain⟨a',c',rfl,hs⟩:=yT9 (l:=[]) hown;exact⟨a',0,c',rfl,hs,by omega,hb⟩
   · obtain⟨b,off,e,hc⟩:=h.2 yEn
     injection e with e
     subst e;refine(Tryz.slices_Clone_int b off n c l W zAn yEn (fun j hj=>hc j (by rw[←h.1];exact hj))).mono ?_;rintro x w ⟨v',rfl,hown,_,hb⟩;rw[yW zAn]at hown;obtain⟨a',c',rfl,hs⟩:=yT9 hown;exact⟨a',n,c',rfl,hs,hn,hb⟩
def itV (l:List Int):Int:=if l.length=0 then 1 else l.getD 0 0
def yX9 (v:Int) (l:List Int) (W:World) (x:Ending) (W':World):Prop:=∃a' n' c',x=.returned (.tuple #[.int .i64 v,.slice a' n' c'])∧Sl W' a' n' l∧n'≤20∧Below W.heap.size W W'
theorem Sl.tail {W:World} {b off n:Nat} {l:List Int} (h:Sl W (some ⟨b,off,none⟩) n l) (hn:0<n):Sl W (some ⟨b,off+1,none⟩) (n-1) l.tail:=by
 obtain⟨b',off',e,hc⟩:=h.2 hn;injection e with e
 injection e with e1 e2 _
 subst e1 e2;refine⟨by rw[yY,h.1],fun _=>⟨b,off+1,rfl,fun j hj=> ?_⟩⟩;rw[xC0,hc (1+j) yEn,←List.drop_one,zN9]
theorem yY9 (a:Option Addr) (n c:Nat) (l:List Int) (W:World) (h:Sl W a n l) (hn:n≤20) (hc:n≤c) (hc2:c≤maxLen):
 Calls Tryz.prog 121 #[.slice a n c] W (yX9 (itV l) l.tail W):=by
 unfold maxLen at hc2;by_cases h0:n=0
 · subst h0
   obtain rfl:=yO0.1 h.1;have HS:=zC h;clear h;rw[show itV []=1 from rfl,List.tail_nil];go_in;go_wp2_with fail;go_ret2;exact⟨none,0,0,rfl,Sl.nil _ _,by omega,zI _ _⟩
 · obtain⟨b,off,rfl,hcell⟩:=h.2 yEn
   have HT:=zC (h.tail yEn);have hv:itV l=l.getD 0 0:=zY (by rw[h.1];exact h0);rw[hv];have hc0:=hcell 0 yEn;rw[xB]at hc0;have hlt:b<W.heap.size:=yU W _ hc0;generalize l.getD 0 0=v at hc0 ⊢;clear hv hcell h;have e1:(n:Int)≠0:=by omega
   have e2:(0:Int)<n:=by omega
   by_cases h1:c=1
   · subst h1
     obtain rfl:n=1:=by omega
     have KC:=zC (fun w a c=>yW9 a (1-1) c l.tail w ⟨HT.out.1,fun h=>by omega⟩ yEn);go_in;go_wp2_with fail;go_region_with (go_at_call 100;refine(KC.out _ _ _).mono ?_;rintro e w2 ⟨a',n',c',rfl,hs,hn',hb2⟩;have hc2:w2.cell? ⟨b,off,none⟩=some (.int .i64 v):=(hb2.cell (p:=⟨b,off,none⟩) (by exact hlt)).trans hc0)
     all_goals
      go_wp2_with fail;go_ret2;exact⟨_,_,_,rfl,hs,hn',⟨hb2.os,hb2.tape,hb2.output,hb2.size,hb2.block⟩⟩
   · have KC:=zC (fun w c (hw:Below W.heap.size W w)=>yW9 _ (n-1) c l.tail w (HT.out.below hw) yEn)
     go_in;go_wp2_with fail;go_region_with (go_at_call 100;refine(KC.out _ _ (by exact(zI _ _).drew)).mono ?_;rintro e w2 ⟨a',n',c',rfl,hs,hn',hb2⟩;have hc2:w2.cell? ⟨b,off,none⟩=some (.int .i64 v):=(hb2.cell (p:=⟨b,off,none⟩) (by exact hlt)).trans hc0)
     all_goals
      go_wp2_with fail;go_ret2;exact⟨_,_,_,rfl,hs,hn',⟨hb2.os,hb2.tape,hb2.output,hb2.size,hb2.block⟩⟩
end
section
open Go.RowKit
theorem yZ9 {l:List Int} {n:Nat} (h:szE l=0) (hl:l.length=n):n≤3:=by have:=(yE9.1 h).len;omega
theorem xA9 {l:List Int} (h:szE l=0):0≤pr l∧pr l≤4096:=⟨zK9 (yE9.1 h).nn,(yE9.1 h).pr⟩
end
end
section
def quo (l:List Int) (k:Int) (i:Nat):Int:=k/pr (l.drop i)
def plc (l:List Int) (k:Int) (i:Nat):Int:=quo l k (i+1)%l.getD i 0
def plL (l:List Int) (k:Int):List Int:=(List.range l.length).map (plc l k)
theorem xB9 (l:List Int) (k:Int):(plL l k).length=l.length:=by simp[plL]
theorem xC9 {l:List Int} {k:Int} {i:Nat} (h:i<l.length):(plL l k).getD i 0=plc l k i:=by
 rw[yJ,yM (by rw[xB9];exact h)];simp[plL]
theorem xD9 (l:List Int) (k:Int):quo l k l.length=k:=by unfold quo;simp[pr]
theorem xE9 {l:List Int} {k:Int} {i:Nat} (h:i<l.length) (hp:0≤pr (l.drop (i+1))):quo l k (i+1)/l.getD i 0=quo l k i:=by
 unfold quo;rw[zJ9 h,Int.ediv_ediv_of_nonneg hp,Int.mul_comm]
theorem xF9 {l t:List Int} {n:Nat} (h:∀i,i<n→0≤t.getD i 0∧t.getD i 0<l.getD i 0):inL l t n=true:=by
 induction n with
 |zero=>rfl
 |succ n ih=>
  simp only[inL,zG1,zI1];exact⟨ih fun i hi=>h i yEn,h n yEn⟩
theorem xG9 {l t:List Int} {n i:Nat} (hi:i<n) (h:t.getD i 0<0∨l.getD i 0≤t.getD i 0):inL l t n=false:=by
 rw[←xP0];intro hh;have:=yG9 hh hi;omega
theorem AllPos.drop_le {l:List Int} (h:AllPos l) (k:Nat):Go.Proofs.YtcfbjdplhgdpfaaGreatDoor.pr (l.drop k)≤Go.Proofs.YtcfbjdplhgdpfaaGreatDoor.pr l:=by
 have e:Go.Proofs.YtcfbjdplhgdpfaaGreatDoor.pr l=Go.Proofs.YtcfbjdplhgdpfaaGreatDoor.pr (l.take k)*Go.Proofs.YtcfbjdplhgdpfaaGreatDoor.pr (l.drop k):=by rw[←zF9,yN1]
 have h1:=h.take k;have h2:=h.drop k;have h3:1*Go.Proofs.YtcfbjdplhgdpfaaGreatDoor.pr (l.drop k)≤Go.Proofs.YtcfbjdplhgdpfaaGreatDoor.pr (l.take k)*Go.Proofs.YtcfbjdplhgdpfaaGreatDoor.pr (l.drop k):=zE2 yEn yEn;omega
theorem AllPos.at_le {l:List Int} (h:AllPos l) {k:Nat} (hk:k<l.length):l.getD k 0≤Go.Proofs.YtcfbjdplhgdpfaaGreatDoor.pr l:=by
 have h1:=h.drop_le k;rw[zJ9 hk]at h1;have h2:=h.drop (k+1);have h3:=h.pos k hk;have h4:l.getD k 0*1≤l.getD k 0*Go.Proofs.YtcfbjdplhgdpfaaGreatDoor.pr (l.drop (k+1)):=zD2 yEn yEn;omega
theorem xH9 {l:List Int} (h:AllPos l) (k:Int) {i:Nat} (hi:i<l.length):0≤plc l k i∧plc l k i<l.getD i 0:=
 ⟨zI2 _ (by have:=h.pos i hi;omega),zJ2 _ (h.pos i hi)⟩
theorem xI9 {l:List Int} (h:AllPos l) {k:Int} (hk:0≤k) (i:Nat):0≤quo l k i:=Int.ediv_nonneg hk (by have:=h.drop i;omega)
theorem xJ9 {l:List Int} (h:AllPos l) {k:Int} (hk:0≤k) (i:Nat):quo l k i≤k:=by
 have:=h.drop i;exact Int.ediv_le_self _ hk
theorem xK9 {l:List Int} {k:Int} (hk:0≤k) (hlt:k<pr l):quo l k 0=0:=by unfold quo;rw[yS1];exact Int.ediv_eq_zero_of_lt hk hlt
theorem xL9 {l:List Int} (h:AllPos l) (k:Int) {i:Nat} (hi:i<l.length):quo l k i*l.getD i 0+plc l k i=quo l k (i+1):=by
 rw[←xE9 hi (Int.le_of_lt (h.drop _))];unfold plc;have:=zK2 (quo l k (i+1)) (l.getD i 0);rw[Int.mul_comm]at this;exact this
theorem xM9 {l:List Int} (h:AllPos l) {k:Int} (hk:0≤k) (hlt:k<pr l) {i:Nat} (hi:i≤l.length):hor l (plL l k) i=quo l k i:=by
 induction i with
 |zero=>rw[xK9 hk hlt];rfl
 |succ i ih=>
  show hor l (plL l k) i*l.getD i 0+(plL l k).getD i 0=_;rw[ih yEn,xC9 yEn,xL9 h k yEn]
def sum (l t:List Int):Nat→Int
 | 0=>0
 |i+1=>sum l t i+t.getD i 0*pr (l.drop (i+1))
theorem xN9 {l t:List Int} {i:Nat} (hi:i≤l.length):sum l t i=hor l t i*pr (l.drop i):=by
 induction i with
 |zero=>simp[sum,hor]
 |succ i ih=>
  show sum l t i+t.getD i 0*pr (l.drop (i+1))=(hor l t i*l.getD i 0+t.getD i 0)*pr (l.drop (i+1));rw[ih yEn,zJ9 yEn,Int.add_mul,Int.mul_assoc]
theorem xO9 (l t:List Int):sum l t l.length=hor l t l.length:=by rw[xN9 (zR _)];simp[pr]
end
section
theorem xP9 {l t:List Int} (h:AllPos l) (ht:inL l t l.length=true):∀d i:Nat,d+i=l.length→quo l (hor l t l.length) i=hor l t i
 | 0,i,e=>by
   have:i=l.length:=by omega
   subst this;exact xD9 _ _
 |d+1,i,e=>by
  have hi:i<l.length:=by omega
  have ih:=xP9 h ht d (i+1) yEn;rw[←xE9 hi (by have:=h.drop (i+1);omega),ih];have hp:=h.pos i hi;have hr:=yG9 ht hi;show(hor l t i*l.getD i 0+t.getD i 0)/l.getD i 0=hor l t i;rw[Int.add_comm,Int.add_mul_ediv_right _ _ yEn,Int.ediv_eq_zero_of_lt hr.1 hr.2,Int.zero_add]
theorem xQ9 {l t:List Int} (h:AllPos l) (ht:inL l t l.length=true) {i:Nat} (hi:i<l.length):plc l (hor l t l.length) i=t.getD i 0:=by
 have e:=xP9 h ht (l.length-(i+1)) (i+1) yEn;have hr:=yG9 ht hi;unfold plc;rw[e];show(hor l t i*l.getD i 0+t.getD i 0)%l.getD i 0=t.getD i 0;rw[Int.add_comm,Int.add_mul_emod_self_right,Int.emod_eq_of_lt hr.1 hr.2]
theorem xR9 {l t:List Int} (h:AllPos l) (ht:inL l t l.length=true) (hl:t.length=l.length):plL l (hor l t l.length)=t:=by
 apply xA1
 · rw[xB9,hl]
 · intro i h1 h2
   have hi:i<l.length:=by rw[xB9]at h1;exact h1
   have e:=xQ9 h ht hi;have e2:=xC9 (k:=hor l t l.length) hi;rw[e,yJ,yJ,yM h1,yM h2]at e2;exact e2
theorem xS9 {l:List Int} {i:Nat} (h:i<l.length):l.reverse.getD i 0=l.getD (l.length-1-i) 0:=by
 rw[yJ,yJ,xU0 h]
theorem xT9:∀l:List Int,pr l.reverse=pr l
 |[]=>rfl
 |x::r=>by
  rw[List.reverse_cons,zF9,xT9 r];simp only[pr];rw[Int.mul_one,Int.mul_comm]
theorem AllPos.turned {l:List Int} (h:AllPos l):AllPos l.reverse:=⟨fun j hj=>by
 rw[yY1]at hj;rw[xS9 hj];exact h.pos _ yEn⟩
def tno (l:List Int) (k:Int):Int:=hor l.reverse (plL l k).reverse l.length
theorem xU9 {l:List Int} (h:AllPos l) (k:Int):inL l.reverse (plL l k).reverse l.reverse.length=true:=by
 refine xF9 fun i hi=> ?_;rw[yY1]at hi;rw[xS9 hi,xS9 (by rw[xB9];exact hi),xB9,xC9 yEn];exact xH9 h k yEn
theorem xV9 {l:List Int} (h:AllPos l) (k:Int):0≤tno l k∧tno l k<pr l:=by
 have g:=yH9 (n:=l.reverse.length) (zR _) (xU9 h k);rw[List.take_length,xT9,yY1]at g;exact g
theorem xW9 {l:List Int} (h:AllPos l) (k:Int):plL l.reverse (tno l k)=(plL l k).reverse:=by
 have g:=xR9 h.turned (xU9 h k) (by rw[yY1,yY1,xB9]);rw[yY1]at g;exact g
theorem xX9 {l:List Int} (h:AllPos l) {k:Int} (hk:0≤k) (hlt:k<pr l):tno l.reverse (tno l k)=k:=by
 have e:tno l.reverse (tno l k)=hor l (plL l k) l.length:=by
  unfold tno;rw[yX1,yY1];have g:=xW9 h k;unfold tno at g;rw[g,yX1]
 rw[e,xM9 h hk hlt (zR _),xD9]
end
section
section
variable {α:Type}
def its (es:List α) (k:Nat):List Nat→List α
 |[]=>[]
 |i::r=>(es.drop (i*k)).take k++its es k r
theorem xY9 (es:List α) (k:Nat) (l m:List Nat):its es k (l++m)=its es k l++its es k m:=by
 induction l with
 |nil=>rfl
 |cons i r ih=>show _++its es k (r++m)=_++its es k r++its es k m;rw[ih,xA]
theorem xZ9 {es:List α} {k n i:Nat} (he:es.length=n*k) (hi:i<n):((es.drop (i*k)).take k).length=k:=by
 have h:(i+1)*k≤n*k:=xE k hi;rw[xV]at h;rw[xP,xB0];omega
theorem zAa {es:List α} {k n:Nat} (he:es.length=n*k) {l:List Nat} (hl:∀i∈l,i<n):(its es k l).length=l.length*k:=by
 induction l with
 |nil=>simp[its]
 |cons i r ih=>
  show(_++its es k r).length=_;rw[zC0,ih fun j hj=>hl j (zN2 _ hj),xZ9 he (hl i (zO2 ..)),yC1,xV];omega
theorem zBa {es:List α} {k:Nat}:∀(m a:Nat),(a+m)*k≤es.length→its es k (List.range' a m)=(es.drop (a*k)).take (m*k)
 | 0,a,h=>by simp[its]
 |m+1,a,h=>by
  have e1:(m+1)*k=k+m*k:=by rw[xV];omega
  have e2:(a+1)*k=a*k+k:=by rw[xV];omega
  have e3:(a+1+m)*k≤es.length:=by rw[show a+1+m=a+(m+1)by omega];exact h
  rw[List.range'_succ];show(es.drop (a*k)).take k++its es k (List.range' (a+1) m)=_;rw[zBa m (a+1) e3,e1,List.take_add,List.drop_drop,e2]
def zCa (es:List α) (k n:Nat):List α:=its es k (List.range n).reverse
theorem zDa {n j:Nat} (h:j<n):(List.range n).reverse.getD j 0=n-1-j:=by
 rw[yJ,xU0 (by simpa using h),List.length_range,xT0 yEn];rfl
theorem zEa {es:List α} {k n:Nat} (he:es.length=n*k):(zCa es k n).length=n*k:=by
 unfold zCa;rw[zAa he (fun i hi=>by simpa using hi),yY1,List.length_range]
end
end
end Go.Proofs.YtcfbjdplhgdpfaaGreatDoor

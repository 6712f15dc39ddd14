import Derived.Test.YtcfbjdplhgdpfaaGreatDoorTan
set_option maxHeartbeats 1600000
set_option maxRecDepth 10000
namespace Go.Proofs.YtcfbjdplhgdpfaaGreatDoor
set_option linter.unusedVariables false
set_option linter.unusedSimpArgs false
section
open Go.RowKit
structure R3 (l:List Int) (k:Nat) (sz:Int):Prop where
 lo:1≤sz
 hi:sz≤4096
 eq:sz=pr (l.take k)
theorem xIe (a:Option Addr) (n c:Nat) (W:World) (hn:3<n):yJ9 80 a n c 0 3 W:=by
 have e1:(3:Int)<(n:Int):=by omega
 unfold yJ9;go_in;go_wp2_with fail;go_ret2;exact⟨rfl,rfl⟩
theorem xJe (a:Option Addr) (n c:Nat) (l:List Int) (W:World) (h:Sl W a n l) (hn:n≤3):yJ9 80 a n c (szV l) (szE l) W:=by
 have e1:¬(3:Int)<(n:Int):=by omega
 obtain⟨v,hv⟩:∃v,v=szV l:=⟨_,rfl⟩
 obtain⟨e,he⟩:∃e,e=szE l:=⟨_,rfl⟩
 rw[←hv,←he];have HV:=zC hv;have HE:=zC he;have HS:=zC h;clear hv he h;unfold yJ9;go_in;go_wp2_with fail;go_loop [4,5] (fun z i=>∃(k:Nat) (b:Bool),i=.int .i64 k∧z=.bool b∧k≤n∧R1 l k b) (fun _ i=>n-(intOf i).toNat)
 case atStart=>exact⟨0,false,rfl,rfl,by omega,R1.start l⟩
 case round=>
  obtain⟨k,bl,rfl,rfl,hk,hI⟩:=hrel;have HI:=zC hI;clear hI;by_cases hlt:k<n
  · have e2:(k:Int)<(n:Int):=by omega
    obtain⟨b,off,rfl,hc⟩:=HS.out.2 yEn;have hck:=hc k hlt;clear hc;obtain⟨x,hx⟩:∃x,x=l.getD k 0:=⟨_,rfl⟩
    rw[←hx]at hck;have HX:=zC hx;clear hx;by_cases c1:x<0
    · have hE:=zY9 xRm (zR9 (j:=k) xNm xVm)
      have hV:=yC9 (l:=l) zRn;obtain rfl:e=5:=HE.out.trans hE;obtain rfl:v=0:=HV.out.trans hV;clear hE hV;go_wp2_with fail;go_ret2;exact⟨rfl,rfl⟩
    · have hst:=HI.out.step zHn
      rw[←HX.out]at hst;have HT:=zC hst;clear hst;rcases xN0 bl with rfl|rfl
      · go_wp2_with fail
        go_round
        case rel=>exact⟨k+1,_,by go_num,rfl,by omega,HT.out⟩
        case measure=>simp[intOf];omega
      · go_wp2_with fail
        go_round
        case rel=>exact⟨k+1,_,by go_num,rfl,by omega,HT.out⟩
        case measure=>simp[intOf];omega
  · have e2:¬(k:Int)<(n:Int):=by omega
    obtain rfl:k=n:=by omega
    have H1:Hid (R1 l l.length bl):=by rw[HS.out.1];exact HI
    clear HI;go_wp2_with fail;go_loop [6] (fun i=>∃k':Nat,i=.int .i64 k'∧k'≤k∧∀j,j<k'→l.getD j 0≤1099511627776) (fun i=>k-(intOf i).toNat)
    case atStart=>exact⟨0,rfl,by omega,fun j hj=>by omega⟩
    case round=>
     obtain⟨q,rfl,hq,hI⟩:=hrel;have HI:=zC hI;clear hI;by_cases hlt:q<k
     · have e3:(q:Int)<(k:Int):=by omega
       obtain⟨b,off,rfl,hc⟩:=HS.out.2 yEn;have hck:=hc q hlt;clear hc;obtain⟨x,hx⟩:∃x,x=l.getD q 0:=⟨_,rfl⟩
       rw[←hx]at hck;have HX:=zC hx;clear hx;by_cases c1:1099511627776<x
       · have hE:=zZ9 xRm (zS9 H1.out.nn) (zU9 (j:=q) xNm xVm)
         have hV:=yC9 (l:=l) zRn;obtain rfl:e=8:=HE.out.trans hE;obtain rfl:v=0:=HV.out.trans hV;clear hE hV;go_wp2_with fail;go_ret2;exact⟨rfl,rfl⟩
       · go_wp2_with fail
         go_round
         case rel=>
          refine⟨q+1,by go_num,by omega,fun j hj=> ?_⟩;rcases zM1 j q with h2|h2
          · exact HI.out j h2
          · rw[show j=q by omega,←HX.out];omega
         case measure=>simp[intOf];omega
     · have e3:¬(q:Int)<(k:Int):=by omega
       obtain rfl:q=k:=by omega
       have H2:Hid (∀j,j<l.length→l.getD j 0≤1099511627776):=by rw[HS.out.1];exact HI
       clear HI;rcases xN0 bl with rfl|rfl
       · obtain⟨j,hj,hz⟩:=H1.out.z.1 rfl
         have hp:=yI9 hj hz;have hE:=yB9 xRm (zS9 H1.out.nn) (zV9 H2.out) (by rw[hp];decide);have hV:=(yD9 hE).trans hp;obtain rfl:e=0:=HE.out.trans hE;obtain rfl:v=0:=HV.out.trans hV;clear hE hV hp hz hj;go_wp2_with fail;go_ret2;exact⟨rfl,rfl⟩
       · have HP:=zC H1.out.pos
         go_wp2_with fail;go_loop [7,8] (fun s i=>∃(k':Nat) (sz:Int),i=.int .i64 k'∧s=.int .i64 sz∧k'≤q∧R3 l k' sz) (fun _ i=>q-(intOf i).toNat)
         case atStart=>exact⟨0,1,rfl,rfl,by omega,by decide,by decide,by simp[pr]⟩
         case round=>
          obtain⟨p,sz,rfl,rfl,hp,hI⟩:=hrel;have HI:=zC hI;clear hI;by_cases hlt:p<q
          · have e4:(p:Int)<(q:Int):=by omega
            obtain⟨b,off,rfl,hc⟩:=HS.out.2 yEn;have hck:=hc p hlt;clear hc;have hpl:p<l.length:=by rw[HS.out.1];exact hlt
            have hpos:=HP.out.pos p hpl;have hat:=HP.out.at_le hpl;have htk:=HP.out.take_le (p+1);rw[zI9 hpl,←HI.out.eq]at htk;obtain⟨x,hx⟩:∃x,x=l.getD p 0:=⟨_,rfl⟩
            rw[←hx]at hck hpos hat htk;have HX:=zC hx;clear hx;by_cases c1:4096<x
            · have hE:=yA9 xRm (zS9 H1.out.nn) (zV9 H2.out) yEn
              have hV:=yC9 (l:=l) zRn;obtain rfl:e=8:=HE.out.trans hE;obtain rfl:v=0:=HV.out.trans hV;clear hE hV hat htk;go_wp2_with fail;go_ret2;exact⟨rfl,rfl⟩
            have hl:=HI.out.lo;have hh:=HI.out.hi;have hm:0≤sz*x:=zC2 yEn yEn;have hm2:sz*x≤4096*x:=zE2 hh yEn;have hw:=w64 (x:=sz*x) yEn yEn;have hm1:1≤sz*x:=Int.mul_pos yEn hpos;by_cases c2:4096<wrap64 (sz*x)
            · have hE:=yA9 xRm (zS9 H1.out.nn) (zV9 H2.out) yEn
              have hV:=yC9 (l:=l) zRn;obtain rfl:e=8:=HE.out.trans hE;obtain rfl:v=0:=HV.out.trans hV;clear hE hV hat htk hw hm1 hm hm2 hl hh;go_wp2_with fail;go_ret2;exact⟨rfl,rfl⟩
            · have HT:Hid (R3 l (p+1) (wrap64 (sz*x))):=zC ⟨by omega,by omega,by rw[hw,zI9 hpl,←HI.out.eq,←HX.out]⟩
              clear hat htk hw hm1 hm hm2 hl hh;go_wp2_with fail;go_round
              case rel=>exact⟨p+1,_,by go_num,rfl,by omega,HT.out⟩
              case measure=>simp[intOf];omega
          · have e4:¬(p:Int)<(q:Int):=by omega
            obtain rfl:p=q:=by omega
            have heq:=HI.out.eq;rw[yW (by rw[HS.out.1];exact zR _)]at heq;have hE:=yB9 xRm (zS9 H1.out.nn) (zV9 H2.out) (by rw[←heq];exact HI.out.hi);have hV:=(yD9 hE).trans heq.symm;obtain rfl:e=0:=HE.out.trans hE;obtain rfl:v=sz:=HV.out.trans hV;clear hE hV heq;go_wp2_with fail;go_ret2;exact⟨rfl,rfl⟩
theorem xKe (a:Option Addr) (n c:Nat) (l:List Int) (W:World) (h:Sl W a n l):yJ9 80 a n c (szV l) (szE l) W:=by
 rcases zM1 3 n with h3|h3
 · have e:=zX9 (l:=l) (by rw[h.1];exact h3)
   rw[e,yC9 (by rw[e];decide)];exact xIe a n c W h3
 · exact xJe a n c l W h h3
end
end Go.Proofs.YtcfbjdplhgdpfaaGreatDoor

import Derived.Test.YtcfbjdplhgdpfaaGreatDoorTar
import Derived.Test.YtcfbjdplhgdpfaaGreatDoorTaq
set_option maxHeartbeats 1600000
set_option maxRecDepth 10000
namespace Go.Proofs.YtcfbjdplhgdpfaaGreatDoor
set_option linter.unusedVariables false
set_option linter.unusedSimpArgs false
theorem zVn {P:Prop}(h:P:=by rw[hh];simp):P:=h
theorem zNn {P:Prop}(h:P:=by rw[hh,zK];omega):P:=h
theorem xQm {P:Prop}(h:P:=by rw[HL.out.1];exact c3):P:=h
theorem xOm {P:Prop}(h:P:=by rw[HS.out.1];exact hj):P:=h
abbrev zT:=@Go.World.ownsRow_nil
abbrev zL:=@Go.World.news_of_block
abbrev zK:=@Array.size_push
abbrev zJ:=@Go.step_append_lies
section
section
open Go.RowKit
theorem xCh (a:Option Addr) (n c:Nat) (l:List Int) (W:World) (h:Sl W a n l) (b:Bool) (hb:b=(szE l==0)):
 Calls Tryz.prog 117 #[.slice a n c] W fun x W'=>x=.returned (.bool b)∧W=W':=by
 have hs:=xKe a n c l W h;unfold yJ9 at hs;have K:=zC hs;clear hs h;subst hb;go_in;go_wp2_with fail;refine K.out.mono ?_;rintro x w1 ⟨rfl,rfl⟩;go_wp2_with fail;go_ret;exact⟨rfl,rfl⟩
end
section
open Go.RowKit
theorem SDrawn.sl {w w':World} (h:SDrawn w w') {a:Option Addr} {n:Nat} {l:List Int} (hs:Sl w a n l):Sl w' a n l:=by obtain⟨m,rfl⟩:=h;exact hs
theorem xDh {l t:List Int} {k:Nat} (hk:k<l.length) (h:t.getD k 0<0∨l.getD k 0≤t.getD k 0):ofB l t=false∧ofV l t=0:=by
 have e:ofB l t=false:=by unfold ofB;rw[xG9 hk h];simp
 exact⟨e,by unfold ofV;rw[e];rfl⟩
theorem xEh {l t:List Int} (h:szE l≠0∨l.length≠t.length):ofB l t=false∧ofV l t=0:=by
 have e:ofB l t=false:=by
  unfold ofB;rcases h with h|h
  · rw[yG0 h];rfl
  · rw[yG0 h];simp
 exact⟨e,by unfold ofV;rw[e];rfl⟩
def xFh (f:Nat) (a1 a2:Option Addr) (n c m d:Nat) (v:Int) (b:Bool) (W:World):Prop:=
 Calls Tryz.prog f #[.slice a1 n c,.slice a2 m d] W fun x W'=>x=.returned (.tuple #[.int .i64 v,.bool b])∧SDrawn W W'
theorem xGh (a1 a2:Option Addr) (n c m d:Nat) (l t:List Int) (W:World) (h1:Sl W a1 n l) (h2:Sl W a2 m t) (hm20:m≤20):xFh 103 a1 a2 n c m d (ofV l t) (ofB l t) W:=by
 have hmay:=yN9 a1 n c l W h1 _ rfl;obtain⟨v,hv⟩:∃v,v=ofV l t:=⟨_,rfl⟩
 obtain⟨b,hb⟩:∃b,b=ofB l t:=⟨_,rfl⟩
 rw[←hv,←hb];have HV:=zC hv;have HB:=zC hb;have H1:=zC h1;have H2:=zC h2;clear hv hb h1 h2;unfold xFh;by_cases he:szE l=0
 · rw[he]at hmay
   have HM:=zC (yE9.1 he);have hn3:n≤3:=by have:=HM.out.len;rw[H1.out.1]at this;exact this
   have K:=zC hmay;clear hmay he;by_cases hnm:m=n
   · subst hnm
     have hlt:l.length=t.length:=by rw[H1.out.1,H2.out.1]
     have HL:=zC hlt;clear hlt;go_in;go_wp2_with fail;refine K.out.mono ?_;rintro x w1 ⟨rfl,rfl⟩;go_wp2_with fail;go_loop [6,21] (fun o i=>∃(k:Nat) (z:Int),i=.int .i64 k∧o=.int .i64 z∧k≤m∧OfInv l t k z) (fun _ i=>m-(intOf i).toNat)
     case atStart=>exact⟨0,0,rfl,rfl,by omega,OfInv.start l t⟩
     case round=>
      obtain⟨k,z,rfl,rfl,hk,hI⟩:=hrel;have HI:=zC hI;clear hI;by_cases hlt:k<m
      · have e2:(k:Int)<(m:Int):=by omega
        obtain⟨b1,o1,rfl,hc1⟩:=H1.out.2 yEn;obtain⟨b2,o2,rfl,hc2⟩:=H2.out.2 yEn;have hk1:=hc1 k hlt;have hk2:=hc2 k hlt;clear hc1 hc2;obtain⟨x,hx⟩:∃x,x=l.getD k 0:=⟨_,rfl⟩
        obtain⟨y,hy⟩:∃y,y=t.getD k 0:=⟨_,rfl⟩
        rw[←hx]at hk1;rw[←hy]at hk2;have HX:=zC hx;have HY:=zC hy;clear hx hy;have hkl:k<l.length:=by rw[H1.out.1];exact hlt
        by_cases c1:y<0
        · obtain⟨f1,f2⟩:=xDh (t:=t) hkl (.inl (by rw[←HY.out];exact c1))
          obtain rfl:b=false:=HB.out.trans f1;obtain rfl:v=0:=HV.out.trans f2;clear f1 f2;go_wp2_with fail;go_ret2;exact⟨rfl,SDrawn.refl _⟩
        by_cases c2:x≤y
        · obtain⟨f1,f2⟩:=xDh (t:=t) hkl (.inr (by rw[←HY.out,←HX.out];exact c2))
          obtain rfl:b=false:=HB.out.trans f1;obtain rfl:v=0:=HV.out.trans f2;clear f1 f2;go_wp2_with fail;go_ret2;exact⟨rfl,SDrawn.refl _⟩
        · have hst:=HI.out.step HM.out hkl (by rw[←HY.out];omega) (by rw[←HY.out,←HX.out];omega)
          rw[←HX.out,←HY.out]at hst;have HT:=zC hst;clear hst;go_wp2_with fail;go_round
          case rel=>exact⟨k+1,_,by go_num,rfl,by omega,HT.out⟩
          case measure=>simp[intOf];omega
      · have e2:¬(k:Int)<(m:Int):=by omega
        obtain rfl:k=m:=by omega
        obtain⟨f1,f2⟩:=(show OfInv l t l.length z by rw[H1.out.1];exact HI.out).ends HM.out HL.out;obtain rfl:b=true:=HB.out.trans f1;obtain rfl:v=z:=HV.out.trans f2;clear f1 f2;go_wp2_with fail;go_ret2;exact⟨rfl,SDrawn.refl _⟩
   · obtain⟨f1,f2⟩:=xEh (l:=l) (t:=t) (.inr (by rw[H1.out.1,H2.out.1];omega))
     obtain rfl:b=false:=HB.out.trans f1;obtain rfl:v=0:=HV.out.trans f2;clear f1 f2;have e2:(m:Int)≠(n:Int):=by omega
     go_in;go_wp2_with fail;refine K.out.mono ?_;rintro x w1 ⟨rfl,rfl⟩;go_wp2_with fail;go_ret2;exact⟨rfl,SDrawn.refl _⟩
 · obtain⟨f1,f2⟩:=xEh (l:=l) (t:=t) (.inl he)
   obtain rfl:b=false:=HB.out.trans f1;obtain rfl:v=0:=HV.out.trans f2;clear f1 f2;rw[show(szE l==0)=false from zT0.2 he]at hmay;have K:=zC hmay;clear hmay he;go_in;go_wp2_with fail;refine K.out.mono ?_;rintro x w1 ⟨rfl,rfl⟩;go_wp2_with fail;go_ret2;exact⟨rfl,SDrawn.refl _⟩
theorem xHh {l:List Int} (hm:MayL l) {i:Nat} (hi:i<l.length) (hp:∀j,j≤i→0<l.getD j 0) {q:Nat} (hq:i+1+q≤l.length):0≤pr ((l.drop (i+1)).take q)∧pr ((l.drop (i+1)).take q)≤9007199254740992:=by
 obtain⟨h1,h2,h3,h4⟩:=hm;have p0:=hp 0 (xJ _);rcases l with _|⟨x,_|⟨y,_|⟨z,_|⟨u,r⟩⟩⟩⟩
 · simp at hi
 · simp at hi hq;obtain rfl:i=0:=by omega
   obtain rfl:q=0:=by omega
   simp[pr]
 · have y0:=h2 1 yHn;have y1:=h3 1 yHn
   simp at hi hq y0 y1
   rcases i with _|_|i
   · rcases q with _|_|q
     · simp[pr]
     · simp[pr];omega
     · omega
   · obtain rfl:q=0:=by omega
     simp[pr]
   · omega
 · have y0:=h2 1 yHn;have y1:=h3 1 yHn;have z0:=h2 2 yHn;have z1:=h3 2 yHn
   simp at hi hq y0 y1 z0 z1 p0
   simp only[pr,Int.mul_one]at h4;rcases i with _|_|_|i
   · rcases q with _|_|_|q
     · simp[pr]
     · simp[pr];omega
     · simp[pr]
       have a:0≤y*z:=zC2 y0 z0;have b:1*(y*z)≤x*(y*z):=zE2 yEn a;omega
     · omega
   · rcases q with _|_|q
     · simp[pr]
     · simp[pr];omega
     · omega
   · obtain rfl:q=0:=by omega
     simp[pr]
   · omega
 · simp at h1
theorem xIh (a:Option Addr) (n c:Nat) (l:List Int) (i:Nat) (W:World) (h:Sl W a n l) (hi:i<n) (hn:n≤20) (hb:∀q,i+1+q≤n→0≤pr ((l.drop (i+1)).take q)∧pr ((l.drop (i+1)).take q)≤9007199254740992):
 Calls Tryz.prog 116 #[.slice a n c,.int .i64 (i:Int)] W fun x W'=>x=.returned (.int .i64 (pr (l.drop (i+1))))∧W'=W:=by
 obtain⟨v,hv⟩:∃v,v=pr (l.drop (i+1)):=⟨_,rfl⟩
 rw[←hv];have HV:=zC hv;have HS:=zC h;have HB:=zC hb;clear hv h hb;go_in;go_wp2_with fail;go_loop [5,6] (fun s j=>∃(k:Nat) (z:Int),j=.int .i64 ((i+1+k:Nat):Int)∧s=.int .i64 z∧i+1+k≤n∧Hid (z=pr ((l.drop (i+1)).take k))) (fun _ j=>n-(intOf j).toNat)
 case atStart=>exact⟨0,1,by go_num,rfl,by omega,zC (by simp[pr])⟩
 case round=>
  obtain⟨k,z,rfl,rfl,hk,HI⟩:=hrel;obtain⟨p,hp⟩:∃p,p=i+1+k:=⟨_,rfl⟩
  rw[←hp]at hk ⊢;have HP:=zC hp;clear hp;by_cases hlt:p<n
  · have e2:(p:Int)<(n:Int):=by omega
    obtain⟨b,off,rfl,hc⟩:=HS.out.2 yEn;have hck:=hc p hlt;clear hc;obtain⟨x,hx⟩:∃x,x=l.getD p 0:=⟨_,rfl⟩
    rw[←hx]at hck;have hst:wrap64 (z*x)=pr ((l.drop (i+1)).take (k+1)):=by
     have h1:=HP.out;have h2:=HB.out (k+1) yEn;rw[zI9 (by rw[xB0,HS.out.1];omega),zN9,←h1,←hx,←HI.out]at h2 ⊢;exact w64 yEn yEn
    have HT:=zC hst;clear hst hx;go_wp2_with fail;go_round
    case rel=>exact⟨k+1,_,by have:=HP.out;go_num,rfl,by have:=HP.out;omega,HT⟩
    case measure=>simp[intOf];omega
  · have e2:¬(p:Int)<(n:Int):=by omega
    have he:v=z:=by
     rw[HV.out,HI.out,yW (by rw[xB0,HS.out.1];have:=HP.out;omega)]
    subst he;go_wp2_with fail;go_ret;exact⟨rfl,rfl⟩
end
section
open Go.RowKit
theorem xJh {l t:List Int} (hm:MayL l) {k:Nat} (hk:k<l.length) (h:inL l t (k+1)=true):0≤t.getD k 0*pr (l.drop (k+1))∧t.getD k 0*pr (l.drop (k+1))≤4096∧0≤sum l t (k+1)∧sum l t (k+1)≤4096:=by
 have hr:=yH9 (l:=l) (t:=t) (n:=k+1) yEn h;have hr0:=yH9 (l:=l) (t:=t) (n:=k) yEn (by simp only[inL,zG1]at h;exact h.1);have hpr:=hm.pr;have ha:=yG9 h (zW k);by_cases hp:AllPos l
 · have hd:=hp.drop (k+1)
   have h1:0≤t.getD k 0*pr (l.drop (k+1)):=zC2 ha.1 yEn;have e:=xN9 (l:=l) (t:=t) (i:=k+1) yEn;have e0:=xN9 (l:=l) (t:=t) (i:=k) yEn;have h2:hor l t (k+1)*pr (l.drop (k+1))≤pr (l.take (k+1))*pr (l.drop (k+1)):=zE2 yEn yEn;rw[←zF9,yN1]at h2;have h3:0≤hor l t k*pr (l.drop k):=zC2 hr0.1 (by have:=hp.drop k;omega);have e2:sum l t (k+1)=sum l t k+t.getD k 0*pr (l.drop (k+1)):=rfl;omega
 · have:∃j,j<l.length∧l.getD j 0=0:=by
    refine Classical.byContradiction fun hn=>hp ⟨fun j hj=> ?_⟩;have:=hm.nn j hj;rcases zT1 0 (l.getD j 0)with h1|h1
    · exact h1
    · exact absurd ⟨j,hj,by omega⟩ hn
   obtain⟨j,hj,hz⟩:=this;have hjk:k<j:=by
    rcases zM1 k j with h1|h1
    · exact h1
    · have:=yG9 h (show j<k+1 by omega);omega
   have hd:pr (l.drop (k+1))=0:=yI9 (j:=j-(k+1)) (by rw[xB0];omega) (by rw[zN9,show k+1+(j-(k+1))=j by omega];exact hz);rw[xN9 yEn,hd];simp
theorem xKh (a1 a2:Option Addr) (n c m d:Nat) (l t:List Int) (W:World) (h1:Sl W a1 n l) (h2:Sl W a2 m t) (hm20:m≤20):xFh 66 a1 a2 n c m d (ofV l t) (ofB l t) W:=by
 have hmay:=xCh a1 n c l W h1 _ rfl;obtain⟨v,hv⟩:∃v,v=ofV l t:=⟨_,rfl⟩
 obtain⟨b,hb⟩:∃b,b=ofB l t:=⟨_,rfl⟩
 rw[←hv,←hb];have HV:=zC hv;have HB:=zC hb;have H1:=zC h1;have H2:=zC h2;clear hv hb h1 h2;unfold xFh;by_cases he:szE l=0
 · rw[he]at hmay
   have HM:=zC (yE9.1 he);have hn3:n≤3:=by have:=HM.out.len;rw[H1.out.1]at this;exact this
   have K:=zC hmay;clear hmay he;by_cases hnm:m=n
   · subst hnm
     have hlt:l.length=t.length:=by rw[H1.out.1,H2.out.1]
     have HL:=zC hlt;clear hlt;go_in;go_wp2_with fail;refine K.out.mono ?_;rintro x w1 ⟨rfl,rfl⟩;go_wp2_with fail;go_loopw [6,7] (fun o i wr=>∃(k:Nat) (z:Int),i=.int .i64 k∧o=.int .i64 z∧k≤m∧Hid (inL l t k=true)∧Hid (z=sum l t k)∧SDrawn W wr) (fun _ i _=>m-(intOf i).toNat)
     case atStart=>exact⟨0,0,rfl,rfl,by omega,zC rfl,zC rfl,SDrawn.refl _⟩
     case round=>
      obtain⟨k,z,rfl,rfl,hk,HI,HZ,HD⟩:=hrel;have HW:=zC HD;clear HD;by_cases hlt:k<m
      · have e2:(k:Int)<(m:Int):=by omega
        obtain⟨b1,o1,rfl,hc1⟩:=H1.out.2 yEn;obtain⟨b2,o2,rfl,hc2⟩:=H2.out.2 yEn;have hk1:=(HW.out.cell _).trans (hc1 k hlt);have hk2:=(HW.out.cell _).trans (hc2 k hlt);clear hc1 hc2;obtain⟨x,hx⟩:∃x,x=l.getD k 0:=⟨_,rfl⟩
        obtain⟨y,hy⟩:∃y,y=t.getD k 0:=⟨_,rfl⟩
        rw[←hx]at hk1;rw[←hy]at hk2;have HX:=zC hx;have HY:=zC hy;clear hx hy;have hkl:k<l.length:=by rw[H1.out.1];exact hlt
        by_cases c1:y<0
        · obtain⟨f1,f2⟩:=xDh (t:=t) hkl (.inl (by rw[←HY.out];exact c1))
          obtain rfl:b=false:=HB.out.trans f1;obtain rfl:v=0:=HV.out.trans f2;clear f1 f2;go_wp2_with fail;go_quiet (fail)
          go_wp2_with fail;go_ret2;exact⟨rfl,HW.out.more _⟩
        have d1:decide (y<0)=false:=yG0 c1;by_cases c2:x≤y
        · obtain⟨f1,f2⟩:=xDh (t:=t) hkl (.inr (by rw[←HY.out,←HX.out];exact c2))
          obtain rfl:b=false:=HB.out.trans f1;obtain rfl:v=0:=HV.out.trans f2;clear f1 f2;go_wp2_with fail;go_quiet (fail)
          go_wp2_with fail;go_ret2;exact⟨rfl,HW.out.more _⟩
        · have d2:decide (x≤y)=false:=yG0 c2
          have hin:inL l t (k+1)=true:=by simp only[inL,HI.out,Bool.true_and,zG1,zI1];exact⟨by rw[←HY.out];omega,by rw[←HX.out,←HY.out];omega⟩
          have hsr:=xJh HM.out hkl hin;have e:sum l t (k+1)=sum l t k+t.getD k 0*pr (l.drop (k+1)):=rfl;have hst:wrap64 (z+wrap64 (y*pr (l.drop (k+1))))=sum l t (k+1):=by
           rw[e,←HY.out,←HZ.out]at hsr ⊢;rw[w64 (x:=y*pr (l.drop (k+1))) yEn yEn];exact w64 yEn yEn
          have KS:=zC (fun w' (hd:SDrawn W w')=>xIh (some ⟨b1,o1,none⟩) m c l k w' (hd.sl H1.out) hlt hm20 (fun q hq=>xHh HM.out hkl (fun j hj=>by have:=yG9 hin (show j<k+1 by omega);omega) (by rw[H1.out.1];exact hq)));generalize pr (l.drop (k+1))=D at KS hst;have HT:=zC hst;have HN:=zC hin;clear hst hsr e hin;go_wp2_with fail;go_quiet (fail)
          go_wp2_with fail;have HW2:=zC (HW.out.more nq);have hk3:=(HW2.out.cell _).trans ((HW.out.cell _).symm.trans hk1);have hk4:=(HW2.out.cell _).trans ((HW.out.cell _).symm.trans hk2);clear hk1 hk2;generalize wr.drewN nq=wr2 at HW2 hk3 hk4 ⊢;go_quiet ((go_at_call 116;exact yL2 (KS.out _ (HW2.out.more _))))
          go_wp2_with fail;go_roundw
          case rel=>exact⟨k+1,_,by go_num,rfl,by omega,HN,HT,HW2.out.more _⟩
          case measure=>simp[intOf];omega
      · have e2:¬(k:Int)<(m:Int):=by omega
        obtain rfl:k=m:=by omega
        have f1:ofB l t=true:=by unfold ofB;rw[yE9.2 HM.out,←HL.out,H1.out.1,HI.out];simp
        have f2:ofV l t=z:=by unfold ofV;rw[yA f1,←xO9,H1.out.1,←HZ.out]
        obtain rfl:b=true:=HB.out.trans f1;obtain rfl:v=z:=HV.out.trans f2;clear f1 f2;go_wp2_with fail;go_ret2;exact⟨rfl,HW.out⟩
   · obtain⟨f1,f2⟩:=xEh (l:=l) (t:=t) (.inr (by rw[H1.out.1,H2.out.1];omega))
     obtain rfl:b=false:=HB.out.trans f1;obtain rfl:v=0:=HV.out.trans f2;clear f1 f2;have e2:(n:Int)≠(m:Int):=by omega
     go_in;go_wp2_with fail;refine K.out.mono ?_;rintro x w1 ⟨rfl,rfl⟩;go_wp2_with fail;go_ret2;exact⟨rfl,SDrawn.refl _⟩
 · obtain⟨f1,f2⟩:=xEh (l:=l) (t:=t) (.inl he)
   obtain rfl:b=false:=HB.out.trans f1;obtain rfl:v=0:=HV.out.trans f2;clear f1 f2;rw[show(szE l==0)=false from zT0.2 he]at hmay;have K:=zC hmay;clear hmay he;go_in;go_wp2_with fail;refine K.out.mono ?_;rintro x w1 ⟨rfl,rfl⟩;go_wp2_with fail;go_ret2;exact⟨rfl,SDrawn.refl _⟩
end
section
open Go.RowKit
theorem xLh:(Tryz.prog.info? 3).map (fun i=>(i.zero,i.size,i.bytes))=some (some (.int .i64 0),1,8):=by kernel_rfl
def xMh (F:Nat→Int) (i:Nat) (x:Int):Nat→Int:=fun j=>if j=i then x else F j
theorem SRw.frozen {w:World} {g N:Nat} {F:Nat→Int} (h:SRw w g N F) (i:Nat):w.frozen? ⟨g,i,none⟩=false:=yN2 h i
theorem SRw.set {w:World} {g N:Nat} {F:Nat→Int} (h:SRw w g N F) (i:Nat) (v:Int):SRw (w.setCell ⟨g,i,none⟩ (.int .i64 v)) g N (xMh F i v):=by
 refine(yO2 h i _).congr fun j _=> ?_;unfold xMh;split<;>rfl
theorem SRw.made (w:World) (n:Nat):SRw (w.alloc (.cells (madeCells #[.int .i64 0] n) 3)) w.heap.size n (fun _=>0):=zP1 w _ n _
def plB (l:List Int) (k:Int):Bool:=decide (szE l=0)&&(decide (0≤k)&&decide (k<pr l))
def plO (l:List Int) (k:Int):List Int:=if plB l k then plL l k else[]
def xNh (b:Bool) (p:List Int) (W:World) (x:Ending) (W':World):Prop:=∃a' n' c',x=.returned (.tuple #[.slice a' n' c',.bool b])∧Sl W' a' n' p∧n'≤20∧Below W.heap.size W W'
def xOh (f:Nat) (a:Option Addr) (n c:Nat) (k:Int) (b:Bool) (p:List Int) (W:World):Prop:=Calls Tryz.prog f #[.slice a n c,.int .i64 k] W (xNh b p W)
theorem xPh {l:List Int} {k:Int} (h:szE l≠0∨k<0∨pr l≤k):plB l k=false∧plO l k=[]:=by
 have e:plB l k=false:=by
  unfold plB;rcases h with h|h|h
  · rw[yG0 h];rfl
  · rw[yG0 (show¬0≤k by omega)];simp
  · rw[yG0 (show¬k<pr l by omega)];simp
 exact⟨e,by unfold plO;rw[e];rfl⟩
theorem xQh {l:List Int} {k:Int} (h:szE l=0) (h0:0≤k) (h1:k<pr l):plB l k=true∧plO l k=plL l k:=by
 have e:plB l k=true:=by unfold plB;rw[yI0 h,yI0 h0,yI0 h1];rfl
 exact⟨e,by unfold plO;rw[e];rfl⟩
end
section
open Go.RowKit
def xRh (l:List Int) (k:Int) (q:Nat):List Int:=(List.range q).map (plc l k)
theorem xSh (l:List Int) (k:Int) (q:Nat):yS9 (xRh l k q)++[.int .i64 (plc l k q)]=yS9 (xRh l k (q+1)):=by
 unfold xRh yS9;rw[zO];simp
theorem xTh {ops:Array Oper} {o:Oper} {a:Act} {K:Act→World→Prop} {Q:Exit→Act→World→Prop} {E:Prop} {w:World} (W wr:World) (s x:Operand) (av:Option Addr) (n cv:Nat) (xs:List Value) (v:Int)
 (ho:o.op=.call {callee:=.builtin .append,args:=#[s,x],argTypes:=#[22,22]}) (hgd:o.guard=none)
 (hs:a.eval s=.slice av n cv) (hx:a.eval x=.slice (some ⟨wr.heap.size,0,none⟩) 1 1) (hh:w.heap=wr.heap.push (.cells #[.int .i64 v] 3)) (h1:w.os=wr.os) (h2:w.tape=wr.tape) (h3:w.output=wr.output)
 (hown:wr.ownsRow W.heap.size 3 1 (.slice av n cv) n xs) (hbel:Below W.heap.size W wr) (hn:n≤20)
 (h:∀av' cv' w',w'.ownsRow W.heap.size 3 1 (.slice av' (n+1) cv') (n+1) (xs++[.int .i64 v])→Below W.heap.size W w'→K (a.put o.dst (.slice av' (n+1) cv')) w'):
 if Region.wanted o (yielded ops a.tmps)=true then Oper.wp Tryz.prog o a w K Q else E:=by
 obtain⟨i0,hi,hz0,hz1,hz2⟩:=zF xLh;have hsz:=hbel.size;have hown2:w.ownsRow W.heap.size 3 1 (.slice av n cv) n xs:=by
  have h4:=hown.alloc (.cells #[.int .i64 v] 3);unfold World.ownsRow at h4 ⊢;rw[hh];exact h4
 have hb2:Below W.heap.size W w:=by
  have h4:=hbel.alloc hsz (.cells #[.int .i64 v] 3);exact⟨h1.trans hbel.os,h2.trans hbel.tape,h3.trans hbel.output,by rw[hh];exact h4.size,fun k hk=>by rw[hh];exact h4.block k hk⟩
 refine zJ w hgd s x 22 ho W.heap.size 3 i0 (.int .i64 0) 1 8 Tryz.underlying22 hi hz0 hz1 hz2 rfl yCn _ _ _ hs hown2 ⟨wr.heap.size,0,none⟩ 1 1 [.int .i64 v] hx rfl ?_ ?_ yCn xXm yEn zNn _ rfl ?_
 · exact zL (t:=3) (fr:=(0,0)) (cs:=#[.int .i64 v]) zVn
 · intro u hu
   rw[zM]at hu;rw[hu];rfl
 · intro g cap w' o1 o2 _ _
   exact h _ _ w' o1 (hb2.grown o2 zNn (fun q hq=>(hown2.lt q hq).1))
theorem xUh (a:Option Addr) (n c:Nat) (l:List Int) (k:Int) (W:World) (h:Sl W a n l) (hk63:k≤9223372036854775807) (he:szE l=0) (h0:0≤k) (h1:k<pr l):xOh 65 a n c k true (plL l k) W:=by
 have hsz:=xKe a n c l W h;unfold yJ9 at hsz;rw[yD9 he,he]at hsz;have HM:=zC (yE9.1 he);have HA:=zC (HM.out.pos yEn);have HS:=zC h;have hn3:n≤3:=by have:=HM.out.len;rw[HS.out.1]at this;exact this
 obtain⟨S,hS⟩:∃S,S=pr l:=⟨_,rfl⟩
 rw[←hS]at hsz h1;have K:=zC hsz;have HZ:=zC hS;have hpr:S≤4096:=by rw[hS];exact HM.out.pr
 have c1:¬k<0:=by omega
 have c2:¬S≤k:=by omega
 clear hsz hS he h;unfold xOh;go_in;go_wp2_with fail;refine K.out.mono ?_;rintro x w1 ⟨rfl,rfl⟩;go_wp2_with fail;obtain⟨i0,hi,hz0,hz1,hz2⟩:=zF xLh;go_loopw [8,9] (fun v i wr=>∃(q:Nat),i=.int .i64 q∧q≤n∧wr.ownsRow W.heap.size 3 1 v q (yS9 (xRh l k q))∧Below W.heap.size W wr) (fun _ i _=>n-(intOf i).toNat)
 case atStart=>exact⟨0,rfl,by omega,zT _ _ _ _,zI _ _⟩
 case round=>
  obtain⟨q,rfl,hq,hown,hbel⟩:=hrel;obtain⟨av,cv,rfl⟩:=yU9 hown;by_cases hlt:q<n
  · have e2:(q:Int)<(n:Int):=by omega
    obtain⟨b,off,rfl,hc⟩:=HS.out.2 yEn;have hck:=(hbel.cell (p:=⟨b,off+q,none⟩) (yU W _ (hc q yEn))).trans (hc q yEn);have hsl:=HS.out.below hbel;have hql:q<l.length:=by rw[HS.out.1];exact hlt
    have hst:=fun w' (hw':Sl w' (some ⟨b,off,none⟩) n l)=>xIh (some ⟨b,off,none⟩) n c l q w' hw' hlt yEn (fun j hj=>xHh HM.out hql (fun i hi=>HA.out.pos i yEn) xOm);have hD:=HA.out.drop (q+1);have hDle:=HA.out.drop_le (q+1);rw[←HZ.out]at hDle;obtain⟨x,hx⟩:∃x,x=l.getD q 0:=⟨_,rfl⟩
    rw[←hx]at hck;have hxp:0<x:=by rw[hx];exact HA.out.pos q hql
    have hpl:plc l k q=k/pr (l.drop (q+1))%x:=by rw[hx];rfl
    generalize pr (l.drop (q+1))=D at hst hD hDle hpl;have hx0:x≠0:=by omega
    have hD0:D≠0:=by omega
    have hkd:0≤k/D:=Int.ediv_nonneg h0 yEn;have hkl:k/D≤k:=Int.ediv_le_self _ h0;have hdv:IntKind.i64.wrap (k.tdiv D)=k/D:=by
     rw[Int.tdiv_eq_ediv_of_nonneg h0];exact xJ0 _ yEn
    obtain⟨pv,hpv⟩:∃pv,pv=plc l k q:=⟨_,rfl⟩
    have hmd:(k/D).tmod x=pv:=by rw[Int.tmod_eq_emod_of_nonneg hkd,hpv,hpl]
    have HV:=zC hpv;clear hkl hkd hpv;have HT:=zC hst;have HP:=zC hpl;have HX:=zC hx;have HO:=zC hown;have HN:Hid (q≤20):=zC yEn;have HB:=zC hbel;have HL:=zC hsl;clear hst hpl hx hc hown hbel hsl;go_wp2_with fail;go_region_law (first|(go_simp;go_at_call 116;refine(HT.out _ (by exact HL.out)).mono ?_;rintro e w2 ⟨rfl,rfl⟩)|(refine xTh W wr (.tmp 32) (.tmp 43) av q cv (yS9 (xRh l k q)) _ rfl rfl rfl rfl rfl rfl rfl rfl HO.out HB.out HN.out ?_;intro av' cv' w3 hown3 hbel3))
    all_goals
     go_wp2_with fail;go_roundw
     case rel=>exact⟨q+1,by go_num,by omega,by rw[←xSh,←HV.out];exact hown3,hbel3⟩
     case measure=>simp[intOf];omega
  · have e2:¬(q:Int)<(n:Int):=by omega
    obtain rfl:q=n:=by omega
    have hsl:∃a c,Value.slice av q cv=.slice a q c∧Sl wr a q (plL l k):=by
     have:=yT9 hown;unfold plL;rw[HS.out.1];exact this
    obtain⟨av',cv',e,hsl⟩:=hsl;injection e with e1 _ e3
    subst e1 e3;have HL:=zC hsl;have HB:=zC hbel;clear hsl hown hbel;go_wp2_with fail;go_ret2;exact⟨_,_,_,rfl,HL.out,by omega,HB.out⟩
theorem xVh (a:Option Addr) (n c:Nat) (l:List Int) (k:Int) (W:World) (h:Sl W a n l) (hno:szE l≠0∨k<0∨pr l≤k):xOh 65 a n c k false [] W:=by
 have hsz:=xKe a n c l W h;unfold yJ9 at hsz;unfold xOh;by_cases he:szE l=0
 · rw[yD9 he,he]at hsz
   generalize pr l=S at hsz hno;have K:=zC hsz;clear hsz;by_cases c1:k<0
   · clear hno
     go_in;go_wp2_with fail;refine K.out.mono ?_;rintro x w1 ⟨rfl,rfl⟩;go_wp2_with fail;go_ret2;exact⟨none,0,0,rfl,Sl.nil _ _,by omega,zI _ _⟩
   · have c2:S≤k:=by rcases hno with h|h|h<;>first|exact absurd he h|exact absurd h c1|exact h
     clear hno;go_in;go_wp2_with fail;refine K.out.mono ?_;rintro x w1 ⟨rfl,rfl⟩;go_wp2_with fail;go_ret2;exact⟨none,0,0,rfl,Sl.nil _ _,by omega,zI _ _⟩
 · rw[yC9 he]at hsz
   clear hno;generalize szE l=E at hsz he;have K:=zC hsz;clear hsz;go_in;go_wp2_with fail;refine K.out.mono ?_;rintro x w1 ⟨rfl,rfl⟩;go_wp2_with fail;go_ret2;exact⟨none,0,0,rfl,Sl.nil _ _,by omega,zI _ _⟩
theorem xWh (a:Option Addr) (n c:Nat) (l:List Int) (k:Int) (W:World) (h:Sl W a n l) (hk63:k≤9223372036854775807):xOh 65 a n c k (plB l k) (plO l k) W:=by
 by_cases hno:szE l≠0∨k<0∨pr l≤k
 · rw[(xPh hno).1,(xPh hno).2];exact xVh a n c l k W h hno
 · have he:szE l=0:=Classical.byContradiction fun h=>hno (.inl h)
   have h0:0≤k:=by rcases zT1 k 0 with h|h;exact absurd (.inr (.inl h)) hno;exact h
   have h1:k<pr l:=by rcases zT1 k (pr l)with h|h;exact h;exact absurd (.inr (.inr h)) hno
   rw[(xQh he h0 h1).1,(xQh he h0 h1).2];exact xUh a n c l k W h hk63 he h0 h1
end
section
open Go.RowKit
def mtE (l k:List Int):Int:=if(l==k)=true∨k.length=0 then 0 else if l.length=0 then 0 else 4
def mtV (l k:List Int):List Int:=if(l==k)=true∨k.length=0 then l else if l.length=0 then k else[]
def xXh (l:List Int) (e:Int) (W:World) (x:Ending) (W':World):Prop:=∃a' n' c',x=.returned (.tuple #[.slice a' n' c',.int .i64 e])∧Sl W' a' n' l∧n'≤20∧Below W.heap.size W W'
theorem xYh (a1 a2:Option Addr) (n c m d:Nat) (l k:List Int) (W:World) (h1:Sl W a1 n l) (h2:Sl W a2 m k) (hn:n≤20) (hm:m≤20):
 Calls Tryz.prog 156 #[.slice a1 n c,.slice a2 m d] W (xXh (mtV l k) (mtE l k) W):=by
 have K:=zC (yP9 a1 a2 n c m d l k W h1 h2 yEn yEn);have hl:=h1.1;have hk:=h2.1;have HL:=zC (And.intro hl hk);have H1:=zC h1;have H2:=zC h2;have C1:=zC (fun w (hw:Below W.heap.size W w)=>yW9 a1 n c l w (h1.below hw) hn);have C2:=zC (fun w (hw:Below W.heap.size W w)=>yW9 a2 m d k w (h2.below hw) hm);obtain⟨b,hb⟩:∃b,b=(l==k):=⟨_,rfl⟩
 rw[←hb]at K;have HB:=zC hb;clear hb h1 h2 hl hk;by_cases c1:b=true
 · subst c1
   have e1:mtE l k=0:=yA (.inl HB.out.symm);have e2:mtV l k=l:=yA (.inl HB.out.symm);rw[e1,e2];clear e1 e2;go_in;go_wp2_with fail;refine K.out.mono ?_;rintro x w1 ⟨rfl,hb1⟩;go_wp2_with fail;refine(C1.out _ hb1).mono ?_;rintro x w2 ⟨a',n',c',rfl,hs,hn',hb2⟩;go_wp2_with fail;go_ret2;exact⟨a',n',c',rfl,hs,hn',hb1.trans (hb2.mono hb1.size)⟩
 obtain rfl:b=false:=by simpa using c1
 by_cases c2:m=0
 · subst c2
   have e1:mtE l k=0:=yA (.inr HL.out.2);have e2:mtV l k=l:=yA (.inr HL.out.2);rw[e1,e2];clear e1 e2;go_in;go_wp2_with fail;refine K.out.mono ?_;rintro x w1 ⟨rfl,hb1⟩;go_wp2_with fail;refine(C1.out _ hb1).mono ?_;rintro x w2 ⟨a',n',c',rfl,hs,hn',hb2⟩;go_wp2_with fail;go_ret2;exact⟨a',n',c',rfl,hs,hn',hb1.trans (hb2.mono hb1.size)⟩
 have c2':(m:Int)≠0:=by omega
 have hno:¬((l==k)=true∨k.length=0):=by
  rintro(h|h)
  · rw[←HB.out]at h;cases h
  · have:=HL.out.2;omega
 by_cases c3:n=0
 · subst c3
   have e1:mtE l k=0:=by unfold mtE;rw[zY hno,yA HL.out.1]
   have e2:mtV l k=k:=by unfold mtV;rw[zY hno,yA HL.out.1]
   rw[e1,e2];clear e1 e2 hno;go_in;go_wp2_with fail;refine K.out.mono ?_;rintro x w1 ⟨rfl,hb1⟩;go_wp2_with fail;refine(C2.out _ hb1).mono ?_;rintro x w2 ⟨a',n',c',rfl,hs,hn',hb2⟩;go_wp2_with fail;go_ret2;exact⟨a',n',c',rfl,hs,hn',hb1.trans (hb2.mono hb1.size)⟩
 have c3':(n:Int)≠0:=by omega
 have e1:mtE l k=4:=by unfold mtE;rw[zY hno,zY xQm]
 have e2:mtV l k=[]:=by unfold mtV;rw[zY hno,zY xQm]
 rw[e1,e2];clear e1 e2 hno;go_in;go_wp2_with fail;refine K.out.mono ?_;rintro x w1 ⟨rfl,hb1⟩;go_wp2_with fail;go_ret2;exact⟨none,0,0,rfl,Sl.nil _ _,by omega,hb1⟩
theorem xZh (a1 a2:Option Addr) (n c m d:Nat) (l k:List Int) (W:World) (h1:Sl W a1 n l) (h2:Sl W a2 m k) (hn:n≤20) (hm:m≤20):
 Calls Tryz.prog 87 #[.slice a1 n c,.slice a2 m d] W (xXh (mtV l k) (mtE l k) W):=by
 obtain⟨b,hb⟩:∃b,b=(l==k):=⟨_,rfl⟩
 have K:=zC (yR9 a1 a2 n c m d l k W h1 h2 yEn yEn b hb);have hl:=h1.1;have hk:=h2.1;have HL:=zC (And.intro hl hk);have H1:=zC h1;have H2:=zC h2;have HB:=zC hb;clear hb h1 h2 hl hk;by_cases c2:m=0
 · subst c2
   have e1:mtE l k=0:=yA (.inr HL.out.2);have e2:mtV l k=l:=yA (.inr HL.out.2);rw[e1,e2];clear e1 e2;go_in;go_wp2_with fail;go_ret2;exact⟨a1,n,c,rfl,H1.out,hn,zI _ _⟩
 have c2':((m:Int)==0)=false:=zT0.2 yEn;by_cases c1:b=true
 · subst c1
   have e1:mtE l k=0:=yA (.inl HB.out.symm);have e2:mtV l k=l:=yA (.inl HB.out.symm);rw[e1,e2];clear e1 e2;go_in;go_wp2_with fail;refine K.out.mono ?_;rintro x w1 ⟨rfl,hb1⟩;go_wp2_with fail;go_ret2;exact⟨a1,n,c,rfl,hb1.sl H1.out,hn,hb1.below⟩
 obtain rfl:b=false:=by simpa using c1
 have hno:¬((l==k)=true∨k.length=0):=by
  rintro(h|h)
  · rw[←HB.out]at h;cases h
  · have:=HL.out.2;omega
 by_cases c3:n=0
 · subst c3
   have e1:mtE l k=0:=by unfold mtE;rw[zY hno,yA HL.out.1]
   have e2:mtV l k=k:=by unfold mtV;rw[zY hno,yA HL.out.1]
   rw[e1,e2];clear e1 e2 hno;go_in;go_wp2_with fail;refine K.out.mono ?_;rintro x w1 ⟨rfl,hb1⟩;go_wp2_with fail;go_ret2;exact⟨a2,m,d,rfl,hb1.sl H2.out,hm,hb1.below⟩
 have c3':(n:Int)≠0:=by omega
 have e1:mtE l k=4:=by unfold mtE;rw[zY hno,zY xQm]
 have e2:mtV l k=[]:=by unfold mtV;rw[zY hno,zY xQm]
 rw[e1,e2];clear e1 e2 hno;go_in;go_wp2_with fail;refine K.out.mono ?_;rintro x w1 ⟨rfl,hb1⟩;go_wp2_with fail;go_ret2;exact⟨none,0,0,rfl,Sl.nil _ _,by omega,hb1.below⟩
theorem zAi (a:Option Addr) (n c:Nat) (l:List Int) (W:World) (h:Sl W a n l) (hn:n≤20) (hc:n≤c) (hc2:c≤maxLen):
 Calls Tryz.prog 62 #[.slice a n c] W (yX9 (itV l) l.tail W):=by
 unfold maxLen at hc2;by_cases h0:n=0
 · subst h0
   obtain rfl:=yO0.1 h.1;have HS:=zC h;clear h;rw[show itV []=1 from rfl,List.tail_nil];go_in;go_wp2_with fail;go_ret2;exact⟨none,0,0,rfl,Sl.nil _ _,by omega,zI _ _⟩
 · obtain⟨b,off,rfl,hcell⟩:=h.2 yEn
   have HT:=zC (h.tail yEn);have hv:itV l=l.getD 0 0:=zY (by rw[h.1];exact h0);rw[hv];have hc0:=hcell 0 yEn;rw[xB]at hc0;generalize l.getD 0 0=v at hc0 ⊢;clear hv hcell h;have e1:(n:Int)≠0:=by omega
   have e2:(0:Int)<n:=by omega
   by_cases h1:c=1
   · subst h1
     obtain rfl:n=1:=by omega
     have HT0:Hid (∀w a,Sl w a (1-1) l.tail):=zC fun w a=>⟨HT.out.1,fun h=>by omega⟩
     go_in;go_wp2_with fail;go_quiet (fail)
     go_wp2_with fail;go_ret2;exact⟨_,1-1,_,rfl,HT0.out _ _,by omega,SDrawn.below ⟨_,rfl⟩⟩
   · go_in
     go_wp2_with fail;go_quiet (fail)
     go_wp2_with fail;go_ret2;exact⟨_,n-1,_,rfl,HT.out,by omega,SDrawn.below ⟨_,rfl⟩⟩
end
end
section
open Go.RowKit
theorem zBi (l k:List Int):mtE l k=meE l k:=by
 unfold mtE meE;by_cases h:l=k
 · subst h;simp
 · have h':(l==k)=false:=zT0.2 h
   rw[h'];by_cases h1:k=[]<;>by_cases h2:l=[]<;>simp_all
theorem zCi (l k:List Int):mtV l k=meV l k:=by
 unfold mtV meV;by_cases h:l=k
 · subst h;simp
 · have h':(l==k)=false:=zT0.2 h
   rw[h'];by_cases h1:k=[]<;>by_cases h2:l=[]<;>simp_all
theorem zDi:AIs [] [] none:=by show yL4 [] []=false;decide
theorem zEi {x:Int} (h:x.natAbs<lim):yLe (S x).data.toList=true:=by
 have hi:Is (S x) (some x):=⟨rfl,h⟩
 exact hi.may
theorem zFi {l xs:List Int} (h:szE l=0) (hl:(xs.length:Int)=pr l) (hb:∀x∈xs,x.natAbs<lim):AIs l (xs.map S) (some (l,xs)):=by
 refine⟨rfl,rfl,⟨h,by rw[zD0];exact hl,fun j hj=> ?_⟩,hb⟩;rw[zD0]at hj;rw[yJ,xS0,yM hj];exact zEi (hb _ (xH hj))
theorem AIs.len {l:List Int} {es:List ByteArray} {q:Ar} (h:AIs l es (some q)):q.1=l∧es.length=q.2.length∧szE l=0∧(q.2.length:Int)=pr l∧∀x∈q.2,x.natAbs<lim:=by
 obtain⟨h1,h2,h3,h4⟩:=h;have e:es.length=q.2.length:=by rw[h2,zD0]
 exact⟨h1,e,h3.e,by rw[←e];exact h3.len,h4⟩
theorem zGi {k:Nat} {l m:List Int} {es fs:List ByteArray} {o p:Option Ar} (h1:AIs l es o) (h2:AIs m fs p):AIs (TS (dyA k o p).1).1 (TS (dyA k o p).1).2 (dyA k o p).1:=by
 rcases zVd k o p with⟨_,h⟩|⟨h,_⟩
 · by_cases hk:k<11
   · cases o with
     |none=>cases h
     |some a=>
     cases p with
     |none=>cases h
     |some b=>
     obtain⟨a1,xs⟩:=a;obtain⟨b1,ys⟩:=b;obtain⟨g1,_,g3,g4,g5⟩:=h1.len;obtain⟨f1,_,f3,f4,f5⟩:=h2.len;simp only at g1 g4 g5 f1 f4 f5;subst g1 f1;by_cases hm:meE a1 b1=0
     · rw[zRd hk hm]at h ⊢
       generalize hs:spL k _=r at h ⊢;obtain⟨u,e⟩:=r;cases u with
       |none=>cases h
       |some zs=>
        have hz:szE (meV a1 b1)=0:=by
         unfold meV;split
         · exact g3
         · split
           · exact f3
           · exact(by decide:szE []=0)
        refine zFi hz ?_ (zId hs (zMd g5 f5));rw[zHd hs,zKd,yNf,xC (xA9 hz).1];rfl
     · rw[zSd hk hm]at h;cases h
   · rw[zTd hk]at h;cases h
 · rw[h];exact zDi
theorem zHi {k:Nat} (hk:k<3) {x:Int} (h:x.natAbs<lim):(mnZ k x).natAbs<lim:=xMk (k:=k) h _ (by rw[zJd hk])
theorem zIi {k:Nat} {l:List Int} {es:List ByteArray} {o:Option Ar} (h:AIs l es o):AIs (TS (mnA k o).1).1 (TS (mnA k o).1).2 (mnA k o).1:=by
 cases o with
 |none=>exact zDi
 |some a=>
  obtain⟨a1,xs⟩:=a;obtain⟨g1,_,g3,g4,g5⟩:=h.len;simp only at g1 g4 g5;subst g1;by_cases hk:k<3
  · have e:mnA k (some (a1,xs))=(some (a1,xs.map (mnZ k)),0):=by simp only[mnA];rw[zY yEn]
    rw[e];refine zFi g3 (by rw[zD0];exact g4) fun z hz=> ?_;obtain⟨x,hx,rfl⟩:=xY0.1 hz;exact zHi hk (g5 x hx)
  · have e:mnA k (some (a1,xs))=(none,1):=by simp only[mnA];rw[yA hk]
    rw[e];exact zDi
end
end Go.Proofs.YtcfbjdplhgdpfaaGreatDoor

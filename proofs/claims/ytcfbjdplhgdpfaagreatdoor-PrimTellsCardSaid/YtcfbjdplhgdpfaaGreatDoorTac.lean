import Derived.Test.YtcfbjdplhgdpfaaGreatDoorTab
set_option maxHeartbeats 1600000
set_option maxRecDepth 10000
namespace Go.Proofs.YtcfbjdplhgdpfaaGreatDoor
set_option linter.unusedVariables false
set_option linter.unusedSimpArgs false
abbrev yT2:=@Nat.lt_trichotomy
abbrev yS2:=@UInt8.toNat_inj
abbrev yR2:=@Nat.pow_lt_pow_iff_right
abbrev yX1:=@List.reverse_reverse
abbrev zC1:=@Go.RowKit.Below.heap_alloc
abbrev xQ0:=@List.length_eq_one_iff
abbrev xL0:=@Ne.symm
abbrev xF0:=@Nat.pos_of_ne_zero
abbrev xB0:=@List.length_drop
abbrev zE0:=@List.length_pos_iff
abbrev xA:=@List.append_assoc
abbrev yE:=@Go.heap_alloc_new
section
open Go.RowKit
theorem yMb {v:Nat} (hv:v<1000000000):0<1000000000/(v+1):=Nat.div_pos yEn yEn
theorem yNb {v:Nat} (hv:1≤v):1000000000/(v+1)<1000000000:=Nat.div_lt_self yCn yEn
theorem yOb {v s:Nat} (hv:1≤v) (hvB:v<1000000000) (hs:s=1000000000/(v+1)):500000000≤s*v:=by
 have h1:1000000000<(s+1)*(v+1):=by rw[hs];have:=Nat.lt_div_mul_add (show 0<v+1 by omega) (a:=1000000000);rw[xV,xY];omega
 have h0:0<s:=by rw[hs];exact yMb hvB
 rw[xV,xI1,yS0,xY]at h1;rcases zM1 s 2 with h|h
 · have:s=1:=by omega
   subst this;omega
 · rcases zM1 v 2 with h2|h2
   · have:v=1:=by omega
     subst this;omega
   · obtain⟨a,rfl⟩:∃a,s=a+2:=⟨s-2,by omega⟩
     obtain⟨b,rfl⟩:∃b,v=b+2:=⟨v-2,by omega⟩
     have e:(a+2)*(b+2)=a*b+2*a+2*b+4:=by rw[xV,xI1,xI1];omega
     have:0≤a*b:=xJ _;omega
theorem yPb {m:List Nat} {n s:Nat} (om:Ok m) (hn:m.length=n+1) (hv:1≤m.getD n 0) (hs:s=1000000000/(m.getD n 0+1)):
 500000000*1000000000^n≤val m*s∧val m*s<1000000000^(n+1)∧1000000000^n*s≤val m*s:=by
 obtain⟨h1,h2⟩:=top_one om hn;have hb:=yUa om n;have hh:=yOb hv hb hs;have hs1:(m.getD n 0+1)*s≤1000000000:=by rw[hs,yP1];exact Nat.div_mul_le_self _ _
 have hs0:0<s:=by rw[hs];exact yMb hb
 refine⟨?_,?_,?_⟩
 · have e1:m.getD n 0*1000000000^n*s≤val m*s:=xE _ h1
   have e2:m.getD n 0*1000000000^n*s=s*m.getD n 0*1000000000^n:=by rw[yP1 _ s,←zP2]
   have e3:500000000*1000000000^n≤s*m.getD n 0*1000000000^n:=xE _ hh;omega
 · have e1:val m*s<(m.getD n 0+1)*1000000000^n*s:=Nat.mul_lt_mul_of_pos_right h2 hs0
   have e2:(m.getD n 0+1)*1000000000^n*s=(m.getD n 0+1)*s*1000000000^n:=by rw[zP2,yP1 (1000000000^n),←zP2]
   have e3:(m.getD n 0+1)*s*1000000000^n≤1000000000*1000000000^n:=xE _ hs1;rw[yB2,yP1 (1000000000^n)];omega
 · refine xE _ ?_
   have:1*1000000000^n≤m.getD n 0*1000000000^n:=xE _ hv;omega
theorem yQb {m:List Nat} {n:Nat} (om:Ok m) (nm:yJa m) (h1:1000000000^n≤val m) (h2:val m<1000000000^(n+1)):m.length=n+1:=by
 have a:=yVa om;have hne:m≠[]:=by
  rintro rfl;have:0<1000000000^n:=yH1 yCn;rw[yKa]at h1;omega
 have b:=xGa nm hne;have c:n<m.length:=(yR2 (a:=1000000000) yCn).1 yEn;have d:m.length-1<n+1:=(yR2 (a:=1000000000) yCn).1 yEn;omega
theorem yRb {m:List Nat} {n:Nat} (nm:yJa m) (h2:val m<1000000000^n):m.length≤n:=by
 by_cases hne:m=[]
 · subst hne;simp
 · have b:=xGa nm hne
   have d:m.length-1<n:=(yR2 (a:=1000000000) yCn).1 yEn;omega
theorem ySb {m:List Nat} {n:Nat} (om:Ok m) (hn:m.length=n+1) (h:500000000*1000000000^n≤val m):500000000≤m.getD n 0:=by
 obtain⟨_,h2⟩:=top_one om hn;have:500000000*1000000000^n<(m.getD n 0+1)*1000000000^n:=by omega
 have:=Nat.lt_of_mul_lt_mul_right this;omega
theorem yTb {m:List Nat} {n:Nat} (nm:yJa m) (hn:m.length=n+1):1≤m.getD n 0:=by
 obtain⟨m',a,rfl,ha⟩:=xFa nm (by rintro rfl;simp at hn);simp at hn
 subst hn;simp;omega
structure ClInv (U V L n k:Nat) (R Q:Nat→Nat):Prop where
 okR:∀j,R j<1000000000
 okQ:∀j,Q j<1000000000
 tail:vf R k (L+1-k)<V
 sum:vf R 0 (L+1)+V*(1000000000^k*vf Q k (L-n-k))=U
theorem ClInv.start {l:List Nat} {L n s V U:Nat} (hl:l.length≤L+1) (ol:Ok l) (hn:n<L) (hU:val l=U) (hUlt:U<1000000000^L*s) (hV:1000000000^n*s≤V):ClInv U V L n (L-n) (over l (fun _=>0)) (fun _=>0):=by
 have hz:vf (over l (fun _=>0)) 0 (L+1)=U:=by rw[yMl l hl,hU]
 refine⟨yNl ol (fun _ _=>by decide),fun _=>by decide,?_,?_⟩
 · have e:=zRb (over l (fun _=>0)) 0 (L-n) (n+1)
   rw[show L-n+(n+1)=L+1 by omega,hz,zP0]at e;rw[show L+1-(L-n)=n+1 by omega];have h1:1000000000^L*s=1000000000^(L-n)*(1000000000^n*s):=by rw[←zP2,←yF1];congr 2;omega
   have h2:1000000000^(L-n)*(1000000000^n*s)≤1000000000^(L-n)*V:=zR2 _ hV;exact Nat.lt_of_mul_lt_mul_left (a:=1000000000^(L-n)) yEn
 · rw[hz,Nat.sub_self];simp[vf]
theorem ClInv.window {U V L n k:Nat} {R Q:Nat→Nat} (h:ClInv U V L n (k+1) R Q) (hk:k+1≤L-n) (hV:V<1000000000^(n+1)):
 vf R k (L+1-k)=vf R k (n+2)∧vf R k (n+2)<1000000000*V∧vf R (k+(n+2)) (L+1-k-(n+2))=0:=by
 have ht:=h.tail;have e1:=zRb R (k+1) (n+1) (L+1-k-(n+2));rw[show n+1+(L+1-k-(n+2))=L+1-(k+1)by omega,show k+1+(n+1)=k+(n+2)by omega]at e1;have hz:vf R (k+(n+2)) (L+1-k-(n+2))=0:=by
  rcases yL0 (vf R (k+(n+2)) (L+1-k-(n+2)))with h0|h0
  · exact h0
  · have:1000000000^(n+1)*1≤1000000000^(n+1)*vf R (k+(n+2)) (L+1-k-(n+2)):=zR2 _ h0
    omega
 have e2:=zRb R k (n+2) (L+1-k-(n+2));rw[show n+2+(L+1-k-(n+2))=L+1-k by omega,hz,yQ2]at e2;have e3:vf R k (L+1-k)=vf R k (n+2):=e2.trans (xB _);refine⟨e3,?_,hz⟩;have e4:=yZl R k (L+1-(k+1));rw[show L+1-(k+1)+1=L+1-k by omega,e3]at e4;have:=h.okR k;omega
theorem yUb {U V A P x x' y q' q:Nat} (es:x+V*(P*1000000000*q)=U) (a1:x=y+P*A) (a2:x'=y+P*(A%V)) (q1:q'=A/V+1000000000*q):x'+V*(P*q')=U:=by
 have d:=xH1 A V;have e3:P*A=V*(P*(A/V))+P*(A%V):=by
  conv=>lhs;rw[←d,xI1]
  rw[Nat.mul_left_comm]
 rw[a1]at es;rw[a2,q1,←es,xI1 P,xI1 V,e3,←zP2 P 1000000000];omega
theorem ClInv.step {U V L n k:Nat} {R Q R':Nat→Nat} (h:ClInv U V L n (k+1) R Q) (hk:k+1≤L-n) (hV:V<1000000000^(n+1)) (hV0:0<V)
 (hout:∀j,j<k∨k+(n+2)≤j→R' j=R j) (hok:∀j,k≤j→j<k+(n+2)→R' j<1000000000) (hR:vf R' k (n+2)=vf R k (n+2)%V):
 ClInv U V L n k R' (upd Q k (vf R k (n+2)/V)):=by
 obtain⟨w1,w2,w3⟩:=h.window hk hV;have t1:vf R' k (L+1-k)=vf R k (n+2)%V:=by
  have e2:=zRb R' k (n+2) (L+1-k-(n+2));rw[show n+2+(L+1-k-(n+2))=L+1-k by omega,zNb (F:=R') (G:=R) (o:=k+(n+2)) (fun j a b=>hout j yEn),w3,yQ2,hR]at e2;exact e2.trans (xB _)
 refine⟨fun j=> ?_,fun j=> ?_,by rw[t1];exact xD1 _ hV0,?_⟩
 · by_cases hj:j<k∨k+(n+2)≤j
   · rw[hout j hj];exact h.okR j
   · exact hok j yEn yEn
 · unfold upd;split
   · exact yF2 (by rw[yP1];exact w2)
   · exact h.okQ j
 · have es:=h.sum
   have a1:=zRb R 0 k (L+1-k);have a2:=zRb R' 0 k (L+1-k);rw[show k+(L+1-k)=L+1 by omega,zP0]at a1 a2;rw[zNb (F:=R') (G:=R) (o:=0) (n:=k) (fun j a b=>hout j yEn),t1]at a2;rw[w1]at a1;have q1:=yZl (upd Q k (vf R k (n+2)/V)) k (L-n-(k+1));rw[show L-n-(k+1)+1=L-n-k by omega,zPb (F:=Q) (o:=k+1) (.inl yEn),show upd Q k (vf R k (n+2)/V) k=vf R k (n+2)/V by unfold upd;rw[yA rfl]]at q1;exact yUb es a1 a2 q1
theorem ClInv.fin {x y s L n:Nat} {R Q:Nat→Nat} (h:ClInv (x*s) (y*s) L n 0 R Q) (hs:0<s):vf Q 0 (L-n)=x/y∧vf R 0 (L+1)=x%y*s:=by
 have ht:=h.tail;have es:=h.sum;simp only[xE1,Nat.pow_zero,xY]at ht es;have hq:vf Q 0 (L-n)=x*s/(y*s):=by
  rw[←es,zX2 _ _ yEn,xX1 ht,zP0]
 have hr:vf R 0 (L+1)=x*s%(y*s):=by
  rw[←es,zZ2,xB1 ht]
 rw[hq,hr,Nat.mul_div_mul_right _ _ hs,Nat.mul_mod_mul_right];exact⟨rfl,rfl⟩
end
section
open Go.RowKit
theorem Rw.only {w w':World} {g g' N:Nat} {F:Nat→Nat} (h:Rw w g N F) (ho:Only g' w w') (hne:g≠g'):Rw w' g N F:=
 h.of_block (ho.block g h.lt yUm)
theorem Rw.below {w w':World} {g N:Nat} {F:Nat→Nat} (h:Rw w g N F) {B:Nat} (hb:Below B w w') (hg:g<B):Rw w' g N F:=h.of_block (hb.block g hg)
theorem yVb {w:World} {g s:Nat} (hc:w.cell? ⟨g,0,none⟩=some (.int .u32 (s:Int))) (hg:g<w.heap.size):Sz w (some ⟨g,0,none⟩) [s]:=
 .inr ⟨g,0,rfl,hg,fun i hi=>by
  have:i=0:=by simp at hi;exact hi
  subst this;exact hc⟩
theorem yWb (A:Option Addr) (l:List Nat) (L c s g:Nat) (w:World) (hL:l.length=L) (hA:Sz w A l) (ol:Ok l) (hl:L≤1000) (hs:s<1000000000) (hc:w.cell? ⟨g,0,none⟩=some (.int .u32 (s:Int))) (hg:g<w.heap.size):
 Calls Tryz.prog 250 #[.slice A L c,.slice (some ⟨g,0,none⟩) 1 1] w fun e w'=>∃A' l' c',e=.returned (.slice A' l'.length c')∧Sz w' A' l'∧Ok l'∧yJa l'∧val l'=val l*s∧Below w.heap.size w w':=by
 subst hL;refine(yYl A (some ⟨g,0,none⟩) l [s] c 1 w hA (yVb hc hg) ol (by simpa[Ok]using hs) hl yHn).mono ?_;rintro e w' ⟨v,rfl,⟨A',l',c',rfl,h1,h2,h3,h4⟩,hb⟩;exact⟨A',l',c',rfl,h1,h2,h3,by rw[h4];simp[val],hb⟩
theorem yXb (A:Option Addr) (l:List Nat) (L c s g K:Nat) (w:World) (hL:l.length=L) (hA:Sz w A l) (ol:Ok l) (hl:L≤1000) (hs:s<1000000000) (hc:w.cell? ⟨g,0,none⟩=some (.int .u32 (s:Int))) (hg:g<w.heap.size)
 (h1:1000000000^K≤val l*s) (h2:val l*s<1000000000^(K+1)):
 Calls Tryz.prog 250 #[.slice A L c,.slice (some ⟨g,0,none⟩) 1 1] w fun e w'=>∃A' l' c',e=.returned (.slice A' (K+1) c')∧l'.length=K+1∧Sz w' A' l'∧Ok l'∧val l'=val l*s∧Below w.heap.size w w':=by
 refine(yWb A l L c s g w hL hA ol hl hs hc hg).mono ?_;rintro e w' ⟨A',l',c',rfl,h3,h4,h5,h6,hb⟩;have:=yQb h4 h5 (by rw[h6];exact h1) (by rw[h6];exact h2);exact⟨A',l',c',by rw[this],this,h3,h4,h6,hb⟩
theorem yYb (w:World) (v:Value):(w.alloc (.cells #[v] 165)).cell? ⟨w.heap.size,0,none⟩=some v:=cell_of_one (yE w _)
theorem yZb (w:World) (g:Nat) (v:Value) (hg:g=w.heap.size):(w.alloc (.cells #[v] 165)).cell? ⟨g,0,none⟩=some v:=by subst hg;exact yYb w v
theorem Rw.sz_trim {w:World} {g N:Nat} {F:Nat→Nat} (h:Rw w g N F) (o n:Nat) (hn:o+n≤N) (hF:∀j,o≤j→j<o+n→F j<1000000000):Sz w (some ⟨g,o,none⟩) (trim (lst F o n)):=by
 obtain⟨A,l,c,e,h1,h2,h3,h4⟩:=SzN.of_row h o n 0 hn hF;have h5:=yZa (lst F o n);refine .inr ⟨g,o,rfl,h.lt,fun i hi=> ?_⟩;rw[zJb]at h5;rw[h.cell (i:=o+i) yEn];have h3:(trim (lst F o n))[i]?=((lst F o n).take (trim (lst F o n)).length)[i]?:=by rw[←xAa]
 rw[yU0 hi,yM hi,yM (by rw[zJb];omega),zKb]at h3;rw[zX1 h3]
def xAb (x y:Nat) (w:World) (e:Ending) (w':World):Prop:=∃v u,e=.returned (.tuple #[v,u])∧SzN w' v (x/y)∧SzN w' u (x%y)∧Below w.heap.size w w'
theorem xBb (A B:Option Addr) (l m:List Nat) (L n c d:Nat) (w:World) (hA:Sz w A l) (hB:Sz w B m) (ol:Ok l) (om:Ok m) (nm:yJa m) (hL:l.length=L) (hm:m.length=n+1) (hl:L≤900) (hnL:n<L):
 Calls Tryz.prog 268 #[.slice A L c,.slice B (n+1) d] w (xAb (val l) (val m) w):=by
 obtain⟨b,o',hBa,hlt',hcell'⟩:=hB.at_ (by rintro rfl;simp at hm);have hcm:=hcell' n yEn;have em:m.getD n 0=m[n]:=by rw[yJ,yM yEn];rfl
 have hv:=yTb nm hm;obtain⟨s,hs⟩:∃s,s=1000000000/(m.getD n 0+1):=⟨_,rfl⟩
 have hb:=yPb om hm hv hs;have hvB:=yUa om n;have hs0:0<s:=by rw[hs];exact yMb hvB
 have hs1:s<1000000000:=by rw[hs];exact yNb hv
 rw[em]at hs hv hvB;have hs2:(1000000000:Int)/((m[n]:Int)+1)=(s:Int):=by rw[hs,Int.natCast_ediv];rfl
 have HB:=zC hb;subst hBa;clear hb em hs hcell';go_in;go_wp2_with fail;refine(yXb _ m (n+1) d s w.heap.size n _ hm (hB.below ((zI _ _).alloc (zR _) _)) om yEn hs1 (yYb _ _) yHn (by have:=HB.out;omega) (by have:=HB.out;omega)).mono ?_;rintro e w1 ⟨D,m',dc,rfl,hm',hD,okD,hvD,hb1⟩;have hB1:Below w.heap.size w w1:=((zI _ _).alloc (zR _) _).trans (hb1.mono yHn);have hA1:=hA.below hB1;have hmk:=yJl (L+1) ((L:Int)+1) yEn yEn;have HVD:=zC hvD;clear hb1 hB hA hvD;go_wp2_with fail;refine(yWb _ l L c s (w1.heap.size+1) _ hL (hA1.below (((zI _ _).alloc (zR _) _).alloc yHn _)) ol yEn hs1 (yZb _ _ _ yHn) yHn).mono ?_;rintro e w2 ⟨E,l',ec,rfl,hE,okE,nmE,hvE,hb2⟩;have hR0:Rw w2 w1.heap.size (L+1) (fun _=>0):=((Rw.made w1 (L+1)).of_block (zC1 _ _ _ yHn)).below hb2 zZn;have hb3:Below w1.heap.size w1 w2:=(((zI _ _).alloc (zR _) _).alloc yHn _).trans (hb2.mono zZn);have hD2:=hD.below hb3;have hDo:=hD.off (zR _);have hB2:Below w.heap.size w w2:=hB1.trans (hb3.mono hB1.size);have hls:val l'<1000000000^L*s:=by
  rw[hvE,←hL];exact Nat.mul_lt_mul_of_pos_right (yVa ol) hs0
 have hlE:l'.length≤L+1:=yRb nmE (by
  have:1000000000^L*s≤1000000000^L*1000000000:=zR2 _ yEn;rw[yB2];omega)
 have hst:=ClInv.start (V:=val m*s) hlE okE hnL hvE (by rw[←hvE];exact hls) HB.out.2.2;have hg1:=hB1.size;obtain⟨g1,hg⟩:∃g,g=w1.heap.size:=⟨_,rfl⟩
 rw[←hg]at hR0 hDo hg1 hb3 ⊢;have HG:=zC hg;clear hb2 hD hg hvE hls hmk hcm;have hmk2:=yJl (L-n) ((L:Int)-((n:Int)+1)+1) yEn yEn;go_wp2_with ((with_reducible refine yKl rfl (.tmp 26) (.tmp 30) rfl g1 (L+1) (L+1) (fun _=>0) E l' ec rfl rfl hR0 hE hlE ?_);intro w3 hR3 hO3)
 go_wp2_with fail;have hQ4:=Rw.made w3 (L-n);have hR4:Rw (w3.alloc (.cells (madeCells #[.int .u32 0] (L-n)) 165)) g1 (L+1) (over l' (fun _=>0)):=hR3.of_block (zC1 _ _ _ hR3.lt);have hD3:=hD2.only hDo hO3;have hD4:=hD3.below ((zI _ _).alloc (zR _) (.cells (madeCells #[.int .u32 0] (L-n)) 165));have hDo2:=hD3.off (zR _);have hB3:Below w.heap.size w w3:=hB2.trans (hO3.to_below hg1 hB2.size);have hB4:=hB3.alloc hB3.size (.cells (madeCells #[.int .u32 0] (L-n)) 165);have hne:g1≠w3.heap.size:=Nat.ne_of_lt hR3.lt;have hg2:=hB3.size;obtain⟨g2,hgg⟩:∃g,g=w3.heap.size:=⟨_,rfl⟩
 generalize w3.alloc (.cells (madeCells #[.int .u32 0] (L-n)) 165)=w4 at hQ4 hR4 hD4 hB4 ⊢;rw[←hgg]at hQ4 hDo2 hne hg2 ⊢;clear hgg hmk2 hR3 hO3 hD3 hB3 hR0 hD2 hE hA1 hB1 hB2 hb3 HG;have hVD:=HVD.out;obtain⟨V,hV⟩:∃V,V=val m*s:=⟨_,rfl⟩
 obtain⟨U,hU⟩:∃U,U=val l*s:=⟨_,rfl⟩
 rw[←hV,←hU]at hst;rw[←hV]at hVD;have hV1:V<1000000000^(n+1):=by rw[hV];exact HB.out.2.1
 have hV0:0<V:=by
  have:0<500000000*1000000000^n:=Nat.mul_pos yCn (yH1 yCn);have:=HB.out.1;omega
 have hV2:500000000≤m'.getD n 0:=ySb okD hm' (by rw[hVD,hV];exact HB.out.1);have HVD2:=zC hVD;have HUV:=zC (And.intro hU hV);clear hVD hU hV HVD;go_loopw [9] (fun i wr=>∃(k:Nat) (R Q:Nat→Nat),k≤L-n∧i=.int .i64 ((k:Int)-1)∧ClInv U V L n k R Q∧Rw wr g1 (L+1) R∧Rw wr g2 (L-n) Q∧Sz wr D m'∧Below w.heap.size w wr) (fun i _=>(intOf i+1).toNat)
 case atStart=>exact⟨L-n,_,_,zR _,by rfl,hst,hR4,hQ4,hD4,hB4⟩
 case round=>
  clear hst hR4 hQ4 hD4 hB4;obtain⟨k,R,Q,hk,rfl,hI,hR,hQ,hD,hB⟩:=hrel;rcases k with _|k
  · go_wp2_with fail
    refine(yOl g1 0 (L+1) (L+1) (L+1) R _ hR yEn (fun j _ _=>hI.okR j) yEn xXm).mono ?_;rintro e wx ⟨rfl,rfl⟩;go_wp2_with fail;have htl:=yZa (lst R 0 (L+1));rw[zJb]at htl;refine(xEl _ _ (L+1) s _ (hR.sz_trim 0 (L+1) yEn (fun j _ _=>hI.okR j)) (xDa (zOb (fun j _ _=>hI.okR j))) yEn hs0 hs1).mono ?_;rintro e w5 ⟨v5,rfl,hv5,hb5⟩;go_wp2_with fail;refine(yOl g2 0 (L-n) (L-n) (L-n) Q _ (hQ.below hb5 hQ.lt) yEn (fun j _ _=>hI.okQ j) yEn xXm).mono ?_;rintro e w6 ⟨rfl,rfl⟩;go_wp2_with fail;go_ret2;obtain⟨hU,hV⟩:=HUV.out;subst hU hV;obtain⟨f1,f2⟩:=hI.fin hs0;rw[yYa,zMb,f2,Nat.mul_div_cancel _ hs0]at hv5;exact⟨_,_,rfl,(SzN.of_row (hQ.below hb5 hQ.lt) 0 _ _ yEn (fun j _ _=>hI.okQ j)).conv f1,hv5,hB.trans (hb5.mono hB.size)⟩
  · have e1:((k+1:Nat):Int)-1=(k:Int):=by omega
    rw[e1];clear e1;obtain⟨x1,x2,x3⟩:=hI.window hk hV1;have htk:=takeOut_any g1 k (L+1-k) (L+1) n R D m' dc wr hR (fun j _ _=>hI.okR j) yEn yEn hD hDo okD hm' hV2 (by rw[HVD2.out];exact x2);rw[HVD2.out]at htk;have HTK:=zC htk;clear htk x1 x2 x3;go_wp2_with fail;rw[show k+(n+1)+1-k=n+2 by omega];refine HTK.out.mono ?_;rintro e w5 ⟨R',rfl,hout,hok,hmod,hR5,hO5⟩;have hst:=hI.step hk hV1 hV0 hout hok hmod;have hQ5:=hQ.only hO5 (xL0 hne);have hD5:=hD.only hDo hO5;have hB5:=hB.trans (hO5.to_below hg1 hB.size);generalize vf R k (n+2)/V=q at hst ⊢;have hcell:=hQ5.cell (i:=k) yEn;have hfz:=hQ5.frozen k;clear hI hR hQ hD hB hO5 hout hok hmod HTK;go_wp2_with fail;go_roundw
    case rel=>
     have hO6:=(Only.refl g2 w5).setCell k (.int .u32 (q:Int));exact⟨k,R',_,by omega,rfl,hst,hR5.only hO6 hne,hQ5.set k q rfl,hD5.only hDo2 hO6,hB5.trans (hO6.to_below hg2 hB5.size)⟩
    case measure=>simp[intOf]
end
section
open Go.RowKit
theorem SzN.nil (w:World) (c:Nat):SzN w (.slice none 0 c) 0:=⟨none,[],c,rfl,.inl ⟨rfl,rfl⟩,yQa,xEa,rfl⟩
theorem SzN.below {w w':World} {v:Value} {x:Nat} (h:SzN w v x) (hb:Below w.heap.size w w'):SzN w' v x:=by
 obtain⟨A,l,c,e,h1,h2⟩:=h;exact⟨A,l,c,e,h1.below hb,h2⟩
theorem Drawn.below {B:Nat} {w w':World} (h:Drawn w w'):Below B w w':=by obtain⟨n,rfl⟩:=h;exact⟨rfl,rfl,rfl,zR _,fun _ _=>rfl⟩
theorem Rw.one (w:World) (v:Nat):Rw (w.alloc (.cells #[.int .u32 (v:Int)] 165)) w.heap.size 1 (fun _=>v):=
 World.rowIs_alloc w #[.int .u32 (v:Int)] _ _ fun i hi=>by
  have:i=0:=by simp at hi;exact hi
  subst this;rfl
theorem xCb (A B:Option Addr) (l m:List Nat) (c d:Nat) (w:World) (hA:Sz w A l) (hB:Sz w B m) (ol:Ok l) (om:Ok m) (nl:yJa l) (nm:yJa m) (hl:l.length≤900) (hm:m.length≤900) (hne:m≠[]):
 Calls Tryz.prog 251 #[.slice A l.length c,.slice B m.length d] w (xAb (val l) (val m) w):=by
 have hcmp:=zIb A B l m c d w hA hB ol om nl nm xXm xXm;have hV:0<val m:=xF0 fun h=>hne ((xHa nm).1 h);by_cases hlt:val l<val m
 · have hz:zCb l m= -1:=xYa hlt
   rw[hz]at hcmp;have HC:=zC hcmp;clear hcmp hz;go_in;go_wp2_with fail;refine HC.out.mono ?_;rintro e w1 ⟨rfl,hD⟩;go_wp2_with fail;go_ret2;exact⟨_,_,rfl,(SzN.nil _ _).conv (xX1 hlt).symm,⟨A,l,c,rfl,hA.drawn hD,ol,nl,(xB1 hlt).symm⟩,hD.below⟩
 · have hz:¬(zCb l m<0):=by
    unfold zCb xJa;split
    · omega
    · split<;>omega
   obtain⟨z,hzz⟩:∃z,z=zCb l m:=⟨_,rfl⟩
   rw[←hzz]at hcmp hz;have HC:=zC hcmp;clear hcmp hzz;have hml:m.length≤l.length:=by
    rcases zM1 l.length m.length with h|h
    · exact absurd (xIa ol nm h) hlt
    · exact h
   by_cases h2:1<m.length
   · obtain⟨n,hn⟩:∃n,m.length=n+1:=⟨m.length-1,by omega⟩
     have hcl:=fun(w1:World) (hA1:Sz w1 A l) (hB1:Sz w1 B m)=>xBb A B l m l.length n c d w1 hA1 hB1 ol om nm rfl hn hl yEn;rw[←hn]at hcl;have HCL:=zC hcl;clear hcl hn;go_in;go_wp2_with fail;refine HC.out.mono ?_;rintro e w1 ⟨rfl,hD⟩;go_wp2_with fail;refine(HCL.out _ (hA.drawn hD) (hB.drawn hD)).mono ?_;rintro e w2 ⟨v,u,rfl,hv,hu,hb⟩;go_wp2_with fail;go_ret2;exact⟨_,_,rfl,hv,hu,(hD.below (B:=w.heap.size)).trans (hb.mono (by rw[hD.heap];exact zR _))⟩
   · have h1:m.length=1:=by
      have:0<m.length:=zE0.2 hne;omega
     obtain⟨p,rfl⟩:=xQ0.1 h1;obtain⟨b,o,rfl,hblt,hcell⟩:=hB.at_ hne;have hp0:0<p:=by simpa[val]using hV
     have hpB:p<1000000000:=om p yHn;have hcp:∀w1,Drawn w w1→w1.cell? ⟨b,o,none⟩=some (.int .u32 (p:Int)):=fun w1 h=>(h.cell _).trans (by simpa using hcell 0 yHn);have HCP:=zC hcp;clear hcp hcell h2 hV hne h1;have hlen1:[p].length=1:=rfl;go_in;go_wp2_with fail;refine HC.out.mono ?_;rintro e w1 ⟨rfl,hD⟩;have hc1:=HCP.out w1 hD;go_wp2_with fail;refine(xEl A l c p _ (hA.drawn hD) ol yEn hp0 hpB).mono ?_;rintro e w2 ⟨v,rfl,hv,hb⟩;go_wp2_with fail;have hR:=Rw.one w2 (val l%p);have hlt2:∀j,0≤j→j<0+1→(fun _:Nat=>val l%p) j<1000000000:=fun j _ _=>Nat.lt_trans (xD1 _ hp0) hpB;refine(yOl w2.heap.size 0 1 1 1 _ _ hR yEn hlt2 yEn xXm).mono ?_;rintro e w3 ⟨rfl,rfl⟩;go_wp2_with fail;go_ret2;have hb2:Below w.heap.size w w2:=(hD.below (B:=w.heap.size)).trans (hb.mono (by rw[hD.heap];exact zR _));have ev:val [p]=p:=by simp[val]
     rw[xAb,ev];exact⟨_,_,rfl,hv.below ((zI _ _).alloc (zR _) _),(SzN.of_row hR 0 1 1 yEn hlt2).conv (by simp[vf]),hb2.alloc hb2.size _⟩
end
section
open Go.Lib
theorem xDb {α:Type} {P:List α→Prop} (nil:P []) (snoc:∀m c,P m→P (m++[c])) (l:List α):P l:=by
 have:∀r:List α,P r.reverse:=by
  intro r;induction r with
  |nil=>exact nil
  |cons a r ih=>rw[List.reverse_cons];exact snoc _ _ ih
 have h:=this l.reverse;rwa [yX1]at h
def xEb (l:List UInt8):Nat:=l.foldl (fun a c=>a*10+(c.toNat-48)) 0
def xFb (l:List UInt8):Prop:=∀c∈l,48≤c.toNat∧c.toNat≤57
theorem xGb (l:List UInt8) (c:UInt8):xEb (l++[c])=xEb l*10+(c.toNat-48):=by simp[xEb]
theorem xHb (l m:List UInt8):xEb (l++m)=xEb l*10^m.length+xEb m:=by
 induction m using xDb with
 |nil=>simp[xEb]
 |snoc m c ih=>
  rw[←xA,xGb,ih,xGb,zC0];simp only[yC1,xR1,zP0,yB2];rw[xV,zP2];omega
theorem xIb (c:UInt8) (l:List UInt8):xEb (c::l)=(c.toNat-48)*10^l.length+xEb l:=by
 rw[show c::l=[c]++l from rfl,xHb];simp[xEb]
theorem xJb:xFb []:=by simp[xFb]
theorem xKb {l m:List UInt8}:xFb (l++m)↔xFb l∧xFb m:=by
 simp only[xFb,xF1];exact⟨fun h=>⟨fun p hp=>h p (.inl hp),fun p hp=>h p (.inr hp)⟩,fun h p hp=>hp.elim (h.1 p) (h.2 p)⟩
theorem xLb {c:UInt8} {l:List UInt8}:xFb (c::l)↔(48≤c.toNat∧c.toNat≤57)∧xFb l:=by simp[xFb]
theorem xMb {l:List UInt8} (h:xFb l) (k:Nat):xFb (l.take k):=fun p hp=>h p (xD hp)
theorem xNb {l:List UInt8} (h:xFb l) (k:Nat):xFb (l.drop k):=fun p hp=>h p (xG1 hp)
theorem xOb {l:List UInt8} (h:xFb l):xEb l<10^l.length:=by
 induction l using xDb with
 |nil=>simp[xEb]
 |snoc m c ih=>
  obtain⟨h1,h2⟩:=xKb.1 h;have h3:=ih h1;have h4:=(xLb.1 h2).1;rw[xGb,zC0];simp only[yC1,xR1,zP0,yB2];omega
theorem xPb {d:Nat} (h:d<10):(UInt8.ofNat (48+d)).toNat=48+d:=by
 rw[UInt8.toNat_ofNat'];omega
theorem xQb {n:Nat} (h:n<10):decDigits n=[UInt8.ofNat (48+n)]:=by rw[decDigits,dif_pos h]
theorem xRb {n:Nat} (h:¬n<10):decDigits n=decDigits (n/10)++[UInt8.ofNat (48+n%10)]:=by rw[decDigits,dif_neg h]
theorem xSb (n:Nat):xFb (decDigits n)∧xEb (decDigits n)=n:=by
 induction n using Nat.strongRecOn with
 |ind n ih=>
  by_cases h:n<10
  · rw[xQb h]
    have:=xPb h;exact⟨xLb.2 ⟨by omega,xJb⟩,by rw[xIb,this];simp[xEb]⟩
  · rw[xRb h]
    obtain⟨h1,h2⟩:=ih (n/10) yEn;have:=xPb (show n%10<10 by omega);exact⟨xKb.2 ⟨h1,xLb.2 ⟨by omega,xJb⟩⟩,by rw[xGb,h2,this];omega⟩
theorem xTb (n:Nat):xEb (decDigits n)=n:=(xSb n).2
theorem xUb (n:Nat):xFb (decDigits n):=(xSb n).1
theorem xVb (n:Nat):decDigits n≠[]:=by
 by_cases h:n<10
 · rw[xQb h];simp
 · rw[xRb h];simp
theorem xWb {a b:Nat} (h:decDigits a=decDigits b):a=b:=by rw[←xTb a,h,xTb]
theorem xXb {a b:UInt8} (h:a.toNat=b.toNat):a=b:=yS2.1 h
theorem xYb (n:Nat) (h:0<n):∃c r,decDigits n=c::r∧c.toNat≠48:=by
 induction n using Nat.strongRecOn with
 |ind n ih=>
  by_cases h10:n<10
  · rw[xQb h10]
    exact⟨_,[],rfl,by rw[xPb h10];omega⟩
  · rw[xRb h10]
    obtain⟨c,r,e,hc⟩:=ih (n/10) yEn yEn;exact⟨c,r++[_],by rw[e];rfl,hc⟩
theorem xZb:∀(l:List UInt8),xFb l→l≠[]→(l.length=1∨∃c r,l=c::r∧c.toNat≠48)→l=decDigits (xEb l):=by
 intro l;induction l using xDb with
 |nil=>intro _ h;exact absurd rfl h
 |snoc m c ih=>
  intro h _ h2;obtain⟨h3,h4⟩:=xKb.1 h;have h5:=(xLb.1 h4).1;by_cases hm:m=[]
  · subst hm
    have e:xEb ([]++[c])=c.toNat-48:=by rw[xGb];simp[xEb]
    rw[e,xQb yEn];simp only[zS0];congr 1
    exact xXb (by rw[xPb yEn];omega)
  · have hlen:0<m.length:=zE0.2 hm
    obtain⟨d,r,e,hd⟩:∃d r,m=d::r∧d.toNat≠48:=by
     rcases h2 with h2|⟨d,r,e,hd⟩
     · rw[zC0]at h2;simp only[yC1,xR1]at h2;omega
     · cases m with
       |nil=>exact absurd rfl hm
       |cons d' r'=>
        simp only[zW1,List.cons.injEq]at e;exact⟨d',r',rfl,by rw[e.1];exact hd⟩
    have hi:=ih h3 hm (.inr ⟨d,r,e,hd⟩);have hpos:0<xEb m:=by
     rw[e,xIb];rw[e]at h3;have:=(xLb.1 h3).1;have hp:0<10^r.length:=yH1 yCn;have:0<(d.toNat-48)*10^r.length:=Nat.mul_pos yEn hp;omega
    rw[xGb,xRb (n:=xEb m*10+(c.toNat-48)) yEn,show(xEb m*10+(c.toNat-48))/10=xEb m by omega,←hi,show(xEb m*10+(c.toNat-48))%10=c.toNat-48 by omega];congr 2
    exact xXb (by rw[xPb yEn];omega)
theorem zAc {n k:Nat} (hk:0<k):(decDigits n).length≤k↔n<10^k:=by
 rw[decDigits_length];constructor
 · intro h
   exact yF (lt_pow_nDigits n) (yM1 yCn h)
 · intro h
   by_cases hz:n<10
   · rw[nDigits_small hz];exact hk
   · have:∀n,10≤n→10^(nDigits n-1)≤n:=by
      intro n;induction n using Nat.strongRecOn with
      |ind n ih=>
       intro hn;rw[nDigits_big yEn,zV2];by_cases h2:n/10<10
       · rw[nDigits_small h2];omega
       · have h3:=ih (n/10) yEn yEn
         have h4:=nDigits_pos (n/10);have:10^nDigits (n/10)=10^(nDigits (n/10)-1)*10:=by rw[←yB2];congr 1;omega
         omega
     have h1:=this n yEn;have h2:nDigits n-1<k:=(yR2 (a:=10) yCn).1 yEn;omega
theorem zBc (n:Nat):0<(decDigits n).length:=zE0.2 (xVb n)
theorem zCc {r k:Nat} (h:r<10^k):(decDigits (10^k+r)).drop 1=(decDigits (10^k+r)).drop 1∧xEb ((decDigits (10^k+r)).drop 1)=r∧((decDigits (10^k+r)).drop 1).length=k:=by
 have hl:(decDigits (10^k+r)).length=k+1:=by
  rw[decDigits_length];exact nDigits_unique k _ yEn (by rw[yB2];omega)
 refine⟨rfl,?_,by rw[xB0];omega⟩;obtain⟨c,l,e⟩:∃c l,decDigits (10^k+r)=c::l:=by
  cases h:decDigits (10^k+r)with
  |nil=>exact absurd h (xVb _)
  |cons c l=>exact⟨c,l,rfl⟩
 have hd:=xTb (10^k+r);have ha:=xUb (10^k+r);rw[e]at hd ha hl ⊢;rw[xIb]at hd;simp only[yC1]at hl;have hlk:l.length=k:=by omega
 have h2:=xOb (xLb.1 ha).2;have h3:=(xLb.1 ha).1;rw[hlk]at hd h2;show xEb l=r;have hq:c.toNat-48=1:=by
  rcases yT2 (c.toNat-48) 1 with h4|h4|h4
  · have:c.toNat-48=0:=by omega
    rw[this]at hd;omega
  · exact h4
  · have:2*10^k≤(c.toNat-48)*10^k:=xE _ h4
    omega
 rw[hq]at hd;omega
theorem zDc {q r k:Nat} (hq:0<q) (h:r<10^k):decDigits q++(decDigits (10^k+r)).drop 1=decDigits (q*10^k+r):=by
 obtain⟨_,h1,h2⟩:=zCc h;have ha:xFb (decDigits q++(decDigits (10^k+r)).drop 1):=xKb.2 ⟨xUb q,xNb (xUb _) 1⟩;obtain⟨c,l,e,hc⟩:=xYb q hq;have h3:=xZb _ ha (by rw[e];simp) (.inr ⟨c,l++_,by rw[e];rfl,hc⟩);rw[h3,xHb,xTb,h1,h2]
end
section
open Go.RowKit
theorem zEc (s:ByteArray) (k:Nat) (h:k<s.size):s.data.toList.take (k+1)=s.data.toList.take k++[s[k]]:=by
 rw[yE0 (by simpa using h)];rfl
theorem zFc (s:ByteArray) (k:Nat) (hd:xFb s.data.toList) (h9:s.size≤9) (hk:k<s.size):xEb (s.data.toList.take k)<100000000:=by
 have:=xOb (xMb hd k);have hl:(s.data.toList.take k).length≤k:=List.length_take_le _ _;have:10^(s.data.toList.take k).length≤10^8:=yM1 yCn yEn;omega
theorem zGc (s:ByteArray) (k:Nat) (hd:xFb s.data.toList) (hk:k<s.size):48≤(s[k]).toNat∧(s[k]).toNat≤57:=hd _ (by
 have:s.data.toList[k]'(by simpa using hk)=s[k]:=rfl;rw[←this];exact xH _)
theorem zHc (s:ByteArray) (w:World) (hs:s.size≤9) (hd:xFb s.data.toList):
 Calls Tryz.prog 260 #[.string s] w fun e w'=>e=.returned (.int .u32 (xEb s.data.toList:Nat))∧w=w':=by
 go_in;go_wp2_with fail;go_loop [3,7] (fun p i=>∃k:Nat,k≤s.size∧i=.int .i64 k∧p=.int .u32 (xEb (s.data.toList.take k):Nat)) (fun _ i=>s.size-(intOf i).toNat)
 case atStart=>exact⟨0,xJ _,rfl,rfl⟩
 case round=>
  obtain⟨k,hk,rfl,rfl⟩:=hrel;by_cases hlt:k<s.size
  · have hb:=zFc s k hd hs hlt
    have hc:=zGc s k hd hlt;have HS:=zC ((zH0 xEb (zEc s k hlt)).trans (xGb _ _));have h0:(0:Int)≤(xEb (s.data.toList.take k):Nat):=yU2 _;go_wp2_with fail;go_round
    case rel=>exact⟨k+1,by omega,by go_num,by rw[HS.out];go_num⟩
    case measure=>simp[intOf];omega
  · go_wp2_with fail
    go_ret;exact⟨xOa (by rw[yW zZn]),rfl⟩
end
end Go.Proofs.YtcfbjdplhgdpfaaGreatDoor

import Derived.Test.YtbijncndjlmmdaaGreatDoorMab
import Derived.Lib.ItoaNum
set_option maxHeartbeats 1600000
set_option maxRecDepth 10000
namespace Go.Proofs.YtbijncndjlmmdaaGreatDoor
set_option linter.unusedVariables false
set_option linter.unusedSimpArgs false
open Go.RowKit
theorem scale_pos {v:Nat} (hv:v<1000000000):0<1000000000/(v+1):=Nat.div_pos (by omega) (by omega)
theorem scale_lt {v:Nat} (hv:1≤v):1000000000/(v+1)<1000000000:=Nat.div_lt_self (by decide) (by omega)
theorem scale_half {v s:Nat} (hv:1≤v) (hvB:v<1000000000) (hs:s=1000000000/(v+1)):500000000≤s*v:=by
 have h1:1000000000<(s+1)*(v+1):=by rw[hs];have:=Nat.lt_div_mul_add (show 0<v+1 by omega) (a:=1000000000);rw[Nat.add_mul,Nat.one_mul];omega
 have h0:0<s:=by rw[hs];exact scale_pos hvB
 rw[Nat.add_mul,Nat.mul_add,Nat.mul_one,Nat.one_mul]at h1
 rcases Nat.lt_or_ge s 2 with h|h
 · have:s=1:=by omega
   subst this;omega
 · rcases Nat.lt_or_ge v 2 with h2|h2
   · have:v=1:=by omega
     subst this;omega
   · obtain⟨a,rfl⟩:∃a,s=a+2:=⟨s-2,by omega⟩
     obtain⟨b,rfl⟩:∃b,v=b+2:=⟨v-2,by omega⟩
     have e:(a+2)*(b+2)=a*b+2*a+2*b+4:=by rw[Nat.add_mul,Nat.mul_add,Nat.mul_add];omega
     have:0≤a*b:=Nat.zero_le _
     omega
theorem scaled_bounds {m:List Nat} {n s:Nat} (om:Ok m) (hn:m.length=n+1) (hv:1≤m.getD n 0) (hs:s=1000000000/(m.getD n 0+1)):
 500000000*1000000000^n≤val m*s∧val m*s<1000000000^(n+1)∧1000000000^n*s≤val m*s:=by
 obtain⟨h1,h2⟩:=top_one om hn
 have hb:=ok_getD om n
 have hh:=scale_half hv hb hs
 have hs1:(m.getD n 0+1)*s≤1000000000:=by rw[hs,Nat.mul_comm];exact Nat.div_mul_le_self _ _
 have hs0:0<s:=by rw[hs];exact scale_pos hb
 refine⟨?_,?_,?_⟩
 · have e1:m.getD n 0*1000000000^n*s≤val m*s:=Nat.mul_le_mul_right _ h1
   have e2:m.getD n 0*1000000000^n*s=s*m.getD n 0*1000000000^n:=by rw[Nat.mul_comm _ s,←Nat.mul_assoc]
   have e3:500000000*1000000000^n≤s*m.getD n 0*1000000000^n:=Nat.mul_le_mul_right _ hh
   omega
 · have e1:val m*s<(m.getD n 0+1)*1000000000^n*s:=Nat.mul_lt_mul_of_pos_right h2 hs0
   have e2:(m.getD n 0+1)*1000000000^n*s=(m.getD n 0+1)*s*1000000000^n:=by rw[Nat.mul_assoc,Nat.mul_comm (1000000000^n),←Nat.mul_assoc]
   have e3:(m.getD n 0+1)*s*1000000000^n≤1000000000*1000000000^n:=Nat.mul_le_mul_right _ hs1
   rw[Nat.pow_succ,Nat.mul_comm (1000000000^n)];omega
 · refine Nat.mul_le_mul_right _ ?_
   have:1*1000000000^n≤m.getD n 0*1000000000^n:=Nat.mul_le_mul_right _ hv
   omega
theorem len_of_bounds {m:List Nat} {n:Nat} (om:Ok m) (nm:Norm m) (h1:1000000000^n≤val m) (h2:val m<1000000000^(n+1)):m.length=n+1:=by
 have a:=val_lt om
 have hne:m≠[]:=by
  rintro rfl
  have:0<1000000000^n:=Nat.pow_pos (by decide)
  rw[val_nil]at h1
  omega
 have b:=norm_ge nm hne
 have c:n<m.length:=(Nat.pow_lt_pow_iff_right (a:=1000000000) (by decide)).1 (by omega)
 have d:m.length-1<n+1:=(Nat.pow_lt_pow_iff_right (a:=1000000000) (by decide)).1 (by omega)
 omega
theorem len_le_of_lt {m:List Nat} {n:Nat} (nm:Norm m) (h2:val m<1000000000^n):m.length≤n:=by
 by_cases hne:m=[]
 · subst hne;simp
 · have b:=norm_ge nm hne
   have d:m.length-1<n:=(Nat.pow_lt_pow_iff_right (a:=1000000000) (by decide)).1 (by omega)
   omega
theorem top_half {m:List Nat} {n:Nat} (om:Ok m) (hn:m.length=n+1) (h:500000000*1000000000^n≤val m):500000000≤m.getD n 0:=by
 obtain⟨_,h2⟩:=top_one om hn
 have:500000000*1000000000^n<(m.getD n 0+1)*1000000000^n:=by omega
 have:=Nat.lt_of_mul_lt_mul_right this
 omega
theorem norm_top {m:List Nat} {n:Nat} (nm:Norm m) (hn:m.length=n+1):1≤m.getD n 0:=by
 obtain⟨m',a,rfl,ha⟩:=norm_last nm (by rintro rfl;simp at hn)
 simp at hn
 subst hn
 simp;omega
structure ClInv (U V L n k:Nat) (R Q:Nat→Nat):Prop where
 okR:∀j,R j<1000000000
 okQ:∀j,Q j<1000000000
 tail:vf R k (L+1-k)<V
 sum:vf R 0 (L+1)+V*(1000000000^k*vf Q k (L-n-k))=U
theorem ClInv.start {l:List Nat} {L n s V U:Nat} (hl:l.length≤L+1) (ol:Ok l) (hn:n<L) (hU:val l=U) (hUlt:U<1000000000^L*s) (hV:1000000000^n*s≤V):ClInv U V L n (L-n) (over l (fun _=>0)) (fun _=>0):=by
 have hz:vf (over l (fun _=>0)) 0 (L+1)=U:=by rw[vf_over_zero l hl,hU]
 refine⟨over_ok ol (fun _ _=>by decide),fun _=>by decide,?_,?_⟩
 · have e:=vf_split (over l (fun _=>0)) 0 (L-n) (n+1)
   rw[show L-n+(n+1)=L+1 by omega,hz,Nat.zero_add]at e
   rw[show L+1-(L-n)=n+1 by omega]
   have h1:1000000000^L*s=1000000000^(L-n)*(1000000000^n*s):=by rw[←Nat.mul_assoc,←Nat.pow_add];congr 2;omega
   have h2:1000000000^(L-n)*(1000000000^n*s)≤1000000000^(L-n)*V:=Nat.mul_le_mul_left _ hV
   exact Nat.lt_of_mul_lt_mul_left (a:=1000000000^(L-n)) (by omega)
 · rw[hz,Nat.sub_self];simp[vf]
theorem ClInv.window {U V L n k:Nat} {R Q:Nat→Nat} (h:ClInv U V L n (k+1) R Q) (hk:k+1≤L-n) (hV:V<1000000000^(n+1)):
 vf R k (L+1-k)=vf R k (n+2)∧vf R k (n+2)<1000000000*V∧vf R (k+(n+2)) (L+1-k-(n+2))=0:=by
 have ht:=h.tail
 have e1:=vf_split R (k+1) (n+1) (L+1-k-(n+2))
 rw[show n+1+(L+1-k-(n+2))=L+1-(k+1)by omega,show k+1+(n+1)=k+(n+2)by omega]at e1
 have hz:vf R (k+(n+2)) (L+1-k-(n+2))=0:=by
  rcases Nat.eq_zero_or_pos (vf R (k+(n+2)) (L+1-k-(n+2)))with h0|h0
  · exact h0
  · have:1000000000^(n+1)*1≤1000000000^(n+1)*vf R (k+(n+2)) (L+1-k-(n+2)):=Nat.mul_le_mul_left _ h0
    omega
 have e2:=vf_split R k (n+2) (L+1-k-(n+2))
 rw[show n+2+(L+1-k-(n+2))=L+1-k by omega,hz,Nat.mul_zero]at e2
 have e3:vf R k (L+1-k)=vf R k (n+2):=e2.trans (Nat.add_zero _)
 refine⟨e3,?_,hz⟩
 have e4:=vf_cons R k (L+1-(k+1))
 rw[show L+1-(k+1)+1=L+1-k by omega,e3]at e4
 have:=h.okR k
 omega
theorem sum_step {U V A P x x' y q' q:Nat} (es:x+V*(P*1000000000*q)=U) (a1:x=y+P*A) (a2:x'=y+P*(A%V)) (q1:q'=A/V+1000000000*q):x'+V*(P*q')=U:=by
 have d:=Nat.div_add_mod A V
 have e3:P*A=V*(P*(A/V))+P*(A%V):=by
  conv=>lhs;rw[←d,Nat.mul_add]
  rw[Nat.mul_left_comm]
 rw[a1]at es
 rw[a2,q1,←es,Nat.mul_add P,Nat.mul_add V,e3,←Nat.mul_assoc P 1000000000]
 omega
theorem ClInv.step {U V L n k:Nat} {R Q R':Nat→Nat} (h:ClInv U V L n (k+1) R Q) (hk:k+1≤L-n) (hV:V<1000000000^(n+1)) (hV0:0<V)
 (hout:∀j,j<k∨k+(n+2)≤j→R' j=R j) (hok:∀j,k≤j→j<k+(n+2)→R' j<1000000000) (hR:vf R' k (n+2)=vf R k (n+2)%V):
 ClInv U V L n k R' (upd Q k (vf R k (n+2)/V)):=by
 obtain⟨w1,w2,w3⟩:=h.window hk hV
 have t1:vf R' k (L+1-k)=vf R k (n+2)%V:=by
  have e2:=vf_split R' k (n+2) (L+1-k-(n+2))
  rw[show n+2+(L+1-k-(n+2))=L+1-k by omega,vf_congr (F:=R') (G:=R) (o:=k+(n+2)) (fun j a b=>hout j (by omega)),w3,Nat.mul_zero,hR]at e2
  exact e2.trans (Nat.add_zero _)
 refine⟨fun j=> ?_,fun j=> ?_,by rw[t1];exact Nat.mod_lt _ hV0,?_⟩
 · by_cases hj:j<k∨k+(n+2)≤j
   · rw[hout j hj];exact h.okR j
   · exact hok j (by omega) (by omega)
 · unfold upd;split
   · exact Nat.div_lt_of_lt_mul (by rw[Nat.mul_comm];exact w2)
   · exact h.okQ j
 · have es:=h.sum
   have a1:=vf_split R 0 k (L+1-k)
   have a2:=vf_split R' 0 k (L+1-k)
   rw[show k+(L+1-k)=L+1 by omega,Nat.zero_add]at a1 a2
   rw[vf_congr (F:=R') (G:=R) (o:=0) (n:=k) (fun j a b=>hout j (by omega)),t1]at a2
   rw[w1]at a1
   have q1:=vf_cons (upd Q k (vf R k (n+2)/V)) k (L-n-(k+1))
   rw[show L-n-(k+1)+1=L-n-k by omega,vf_upd_out (F:=Q) (o:=k+1) (.inl (by omega)),show upd Q k (vf R k (n+2)/V) k=vf R k (n+2)/V by unfold upd;rw[if_pos rfl]]at q1
   exact sum_step es a1 a2 q1
theorem ClInv.fin {x y s L n:Nat} {R Q:Nat→Nat} (h:ClInv (x*s) (y*s) L n 0 R Q) (hs:0<s):vf Q 0 (L-n)=x/y∧vf R 0 (L+1)=x%y*s:=by
 have ht:=h.tail
 have es:=h.sum
 simp only[Nat.sub_zero,Nat.pow_zero,Nat.one_mul]at ht es
 have hq:vf Q 0 (L-n)=x*s/(y*s):=by
  rw[←es,Nat.add_mul_div_left _ _ (by omega),Nat.div_eq_of_lt ht,Nat.zero_add]
 have hr:vf R 0 (L+1)=x*s%(y*s):=by
  rw[←es,Nat.add_mul_mod_self_left,Nat.mod_eq_of_lt ht]
 rw[hq,hr,Nat.mul_div_mul_right _ _ hs,Nat.mul_mod_mul_right]
 exact⟨rfl,rfl⟩
end Go.Proofs.YtbijncndjlmmdaaGreatDoor
namespace Go.Proofs.YtbijncndjlmmdaaGreatDoor
set_option linter.unusedVariables false
set_option linter.unusedSimpArgs false
open Go.RowKit
theorem Rw.only {w w':World} {g g' N:Nat} {F:Nat→Nat} (h:Rw w g N F) (ho:Only g' w w') (hne:g≠g'):Rw w' g N F:=
 h.of_block (ho.block g h.lt (by intro e;injection e with e;exact hne e))
theorem Rw.below {w w':World} {g N:Nat} {F:Nat→Nat} (h:Rw w g N F) {B:Nat} (hb:Below B w w') (hg:g<B):Rw w' g N F:=h.of_block (hb.block g hg)
theorem sz_one {w:World} {g s:Nat} (hc:w.cell? ⟨g,0,none⟩=some (.int .u32 (s:Int))) (hg:g<w.heap.size):Sz w (some ⟨g,0,none⟩) [s]:=
 .inr ⟨g,0,rfl,hg,fun i hi=>by
  have:i=0:=by simp at hi;exact hi
  subst this;exact hc⟩
theorem mul_part (A:Option Addr) (l:List Nat) (L c s g:Nat) (w:World) (hL:l.length=L) (hA:Sz w A l) (ol:Ok l) (hl:L≤1000) (hs:s<1000000000) (hc:w.cell? ⟨g,0,none⟩=some (.int .u32 (s:Int))) (hg:g<w.heap.size):
 Calls Tryz.prog 285 #[.slice A L c,.slice (some ⟨g,0,none⟩) 1 1] w fun e w'=>∃A' l' c',e=.returned (.slice A' l'.length c')∧Sz w' A' l'∧Ok l'∧Norm l'∧val l'=val l*s∧Below w.heap.size w w':=by
 subst hL
 refine(multiplied_any A (some ⟨g,0,none⟩) l [s] c 1 w hA (sz_one hc hg) ol (by simpa[Ok]using hs) hl (by simp)).mono ?_
 rintro e w' ⟨v,rfl,⟨A',l',c',rfl,h1,h2,h3,h4⟩,hb⟩
 exact⟨A',l',c',rfl,h1,h2,h3,by rw[h4];simp[val],hb⟩
theorem mul_part_len (A:Option Addr) (l:List Nat) (L c s g K:Nat) (w:World) (hL:l.length=L) (hA:Sz w A l) (ol:Ok l) (hl:L≤1000) (hs:s<1000000000) (hc:w.cell? ⟨g,0,none⟩=some (.int .u32 (s:Int))) (hg:g<w.heap.size)
 (h1:1000000000^K≤val l*s) (h2:val l*s<1000000000^(K+1)):
 Calls Tryz.prog 285 #[.slice A L c,.slice (some ⟨g,0,none⟩) 1 1] w fun e w'=>∃A' l' c',e=.returned (.slice A' (K+1) c')∧l'.length=K+1∧Sz w' A' l'∧Ok l'∧val l'=val l*s∧Below w.heap.size w w':=by
 refine(mul_part A l L c s g w hL hA ol hl hs hc hg).mono ?_
 rintro e w' ⟨A',l',c',rfl,h3,h4,h5,h6,hb⟩
 have:=len_of_bounds h4 h5 (by rw[h6];exact h1) (by rw[h6];exact h2)
 exact⟨A',l',c',by rw[this],this,h3,h4,h6,hb⟩
theorem cell_new1 (w:World) (v:Value):(w.alloc (.cells #[v] 195)).cell? ⟨w.heap.size,0,none⟩=some v:=cell_of_one (heap_alloc_new w _)
theorem cell_new1' (w:World) (g:Nat) (v:Value) (hg:g=w.heap.size):(w.alloc (.cells #[v] 195)).cell? ⟨g,0,none⟩=some v:=by subst hg;exact cell_new1 w v
theorem Rw.sz_trim {w:World} {g N:Nat} {F:Nat→Nat} (h:Rw w g N F) (o n:Nat) (hn:o+n≤N) (hF:∀j,o≤j→j<o+n→F j<1000000000):Sz w (some ⟨g,o,none⟩) (trim (lst F o n)):=by
 obtain⟨A,l,c,e,h1,h2,h3,h4⟩:=SzN.of_row h o n 0 hn hF
 have h5:=trim_le (lst F o n)
 refine .inr ⟨g,o,rfl,h.lt,fun i hi=> ?_⟩
 rw[lst_length]at h5
 rw[h.cell (i:=o+i) (by omega)]
 have h3:(trim (lst F o n))[i]?=((lst F o n).take (trim (lst F o n)).length)[i]?:=by rw[←trim_take]
 rw[List.getElem?_take_of_lt hi,List.getElem?_eq_getElem hi,List.getElem?_eq_getElem (by rw[lst_length];omega),lst_get]at h3
 rw[Option.some.inj h3]
def ClPost (x y:Nat) (w:World) (e:Ending) (w':World):Prop:=∃v u,e=.returned (.tuple #[v,u])∧SzN w' v (x/y)∧SzN w' u (x%y)∧Below w.heap.size w w'
theorem cutLong_any (A B:Option Addr) (l m:List Nat) (L n c d:Nat) (w:World) (hA:Sz w A l) (hB:Sz w B m) (ol:Ok l) (om:Ok m) (nm:Norm m) (hL:l.length=L) (hm:m.length=n+1) (hl:L≤900) (hnL:n<L):
 Calls Tryz.prog 306 #[.slice A L c,.slice B (n+1) d] w (ClPost (val l) (val m) w):=by
 obtain⟨b,o',hBa,hlt',hcell'⟩:=hB.at_ (by rintro rfl;simp at hm)
 have hcm:=hcell' n (by omega)
 have em:m.getD n 0=m[n]:=by rw[List.getD_eq_getElem?_getD,List.getElem?_eq_getElem (by omega)];rfl
 have hv:=norm_top nm hm
 obtain⟨s,hs⟩:∃s,s=1000000000/(m.getD n 0+1):=⟨_,rfl⟩
 have hb:=scaled_bounds om hm hv hs
 have hvB:=ok_getD om n
 have hs0:0<s:=by rw[hs];exact scale_pos hvB
 have hs1:s<1000000000:=by rw[hs];exact scale_lt hv
 rw[em]at hs hv hvB
 have hs2:(1000000000:Int)/((m[n]:Int)+1)=(s:Int):=by rw[hs,Int.natCast_ediv];rfl
 have HB:=Lib.hid hb
 subst hBa
 clear hb em hs hcell'
 go_enter Tryz.func306,Tryz.ntmps306
 go_wp2_with fail
 refine(mul_part_len _ m (n+1) d s w.heap.size n _ hm (hB.below ((Below.refl _ _).alloc (Nat.le_refl _) _)) om (by omega) hs1 (cell_new1 _ _) (by simp) (by have:=HB.out;omega) (by have:=HB.out;omega)).mono ?_
 rintro e w1 ⟨D,m',dc,rfl,hm',hD,okD,hvD,hb1⟩
 have hB1:Below w.heap.size w w1:=((Below.refl _ _).alloc (Nat.le_refl _) _).trans (hb1.mono (by simp))
 have hA1:=hA.below hB1
 have hmk:=run_mkz (L+1) ((L:Int)+1) (by omega) (by omega)
 have HVD:=Lib.hid hvD
 clear hb1 hB hA hvD
 go_wp2_with fail
 refine(mul_part _ l L c s (w1.heap.size+1) _ hL (hA1.below (((Below.refl _ _).alloc (Nat.le_refl _) _).alloc (by simp) _)) ol (by omega) hs1 (cell_new1' _ _ _ (by simp)) (by simp)).mono ?_
 rintro e w2 ⟨E,l',ec,rfl,hE,okE,nmE,hvE,hb2⟩
 have hR0:Rw w2 w1.heap.size (L+1) (fun _=>0):=((Rw.made w1 (L+1)).of_block (Below.heap_alloc _ _ _ (by simp))).below hb2 (by simp;omega)
 have hb3:Below w1.heap.size w1 w2:=(((Below.refl _ _).alloc (Nat.le_refl _) _).alloc (by simp) _).trans (hb2.mono (by simp;omega))
 have hD2:=hD.below hb3
 have hDo:=hD.off (Nat.le_refl _)
 have hB2:Below w.heap.size w w2:=hB1.trans (hb3.mono hB1.size)
 have hls:val l'<1000000000^L*s:=by
  rw[hvE,←hL];exact Nat.mul_lt_mul_of_pos_right (val_lt ol) hs0
 have hlE:l'.length≤L+1:=len_le_of_lt nmE (by
  have:1000000000^L*s≤1000000000^L*1000000000:=Nat.mul_le_mul_left _ (by omega)
  rw[Nat.pow_succ];omega)
 have hst:=ClInv.start (V:=val m*s) hlE okE hnL hvE (by rw[←hvE];exact hls) HB.out.2.2
 have hg1:=hB1.size
 obtain⟨g1,hg⟩:∃g,g=w1.heap.size:=⟨_,rfl⟩
 rw[←hg]at hR0 hDo hg1 hb3 ⊢
 have HG:=Lib.hid hg
 clear hb2 hD hg hvE hls hmk hcm
 have hmk2:=run_mkz (L-n) ((L:Int)-((n:Int)+1)+1) (by omega) (by omega)
 go_wp2_with ((with_reducible refine wpList_copy_sz rfl (.tmp 26) (.tmp 30) rfl g1 (L+1) (L+1) (fun _=>0) E l' ec rfl rfl hR0 hE hlE ?_);intro w3 hR3 hO3)
 go_wp2_with fail
 have hQ4:=Rw.made w3 (L-n)
 have hR4:Rw (w3.alloc (.cells (madeCells #[.int .u32 0] (L-n)) 195)) g1 (L+1) (over l' (fun _=>0)):=hR3.of_block (Below.heap_alloc _ _ _ hR3.lt)
 have hD3:=hD2.only hDo hO3
 have hD4:=hD3.below ((Below.refl _ _).alloc (Nat.le_refl _) (.cells (madeCells #[.int .u32 0] (L-n)) 195))
 have hDo2:=hD3.off (Nat.le_refl _)
 have hB3:Below w.heap.size w w3:=hB2.trans (hO3.to_below hg1 hB2.size)
 have hB4:=hB3.alloc hB3.size (.cells (madeCells #[.int .u32 0] (L-n)) 195)
 have hne:g1≠w3.heap.size:=Nat.ne_of_lt hR3.lt
 have hg2:=hB3.size
 obtain⟨g2,hgg⟩:∃g,g=w3.heap.size:=⟨_,rfl⟩
 generalize w3.alloc (.cells (madeCells #[.int .u32 0] (L-n)) 195)=w4 at hQ4 hR4 hD4 hB4 ⊢
 rw[←hgg]at hQ4 hDo2 hne hg2 ⊢
 clear hgg hmk2 hR3 hO3 hD3 hB3 hR0 hD2 hE hA1 hB1 hB2 hb3 HG
 have hVD:=HVD.out
 obtain⟨V,hV⟩:∃V,V=val m*s:=⟨_,rfl⟩
 obtain⟨U,hU⟩:∃U,U=val l*s:=⟨_,rfl⟩
 rw[←hV,←hU]at hst
 rw[←hV]at hVD
 have hV1:V<1000000000^(n+1):=by rw[hV];exact HB.out.2.1
 have hV0:0<V:=by
  have:0<500000000*1000000000^n:=Nat.mul_pos (by decide) (Nat.pow_pos (by decide))
  have:=HB.out.1
  omega
 have hV2:500000000≤m'.getD n 0:=top_half okD hm' (by rw[hVD,hV];exact HB.out.1)
 have HVD2:=Lib.hid hVD
 have HUV:=Lib.hid (And.intro hU hV)
 clear hVD hU hV HVD
 go_loopw [9] (fun i wr=>∃(k:Nat) (R Q:Nat→Nat),k≤L-n∧i=.int .i64 ((k:Int)-1)∧ClInv U V L n k R Q∧Rw wr g1 (L+1) R∧Rw wr g2 (L-n) Q∧Sz wr D m'∧Below w.heap.size w wr) (fun i _=>(intOf i+1).toNat)
 case atStart=>exact⟨L-n,_,_,Nat.le_refl _,by rfl,hst,hR4,hQ4,hD4,hB4⟩
 case round=>
  clear hst hR4 hQ4 hD4 hB4
  obtain⟨k,R,Q,hk,rfl,hI,hR,hQ,hD,hB⟩:=hrel
  rcases k with _|k
  · go_wp2_with fail
    refine(trimmed_row g1 0 (L+1) (L+1) (L+1) R _ hR (by omega) (fun j _ _=>hI.okR j) (by omega) (by unfold maxLen;omega)).mono ?_
    rintro e wx ⟨rfl,rfl⟩
    go_wp2_with fail
    have htl:=trim_le (lst R 0 (L+1))
    rw[lst_length]at htl
    refine(cutByPart_any _ _ (L+1) s _ (hR.sz_trim 0 (L+1) (by omega) (fun j _ _=>hI.okR j)) (ok_trim (lst_ok (fun j _ _=>hI.okR j))) (by omega) hs0 hs1).mono ?_
    rintro e w5 ⟨v5,rfl,hv5,hb5⟩
    go_wp2_with fail
    refine(trimmed_row g2 0 (L-n) (L-n) (L-n) Q _ (hQ.below hb5 hQ.lt) (by omega) (fun j _ _=>hI.okQ j) (by omega) (by unfold maxLen;omega)).mono ?_
    rintro e w6 ⟨rfl,rfl⟩
    go_wp2_with fail
    go_ret2
    obtain⟨hU,hV⟩:=HUV.out
    subst hU hV
    obtain⟨f1,f2⟩:=hI.fin hs0
    rw[val_trim,val_lst,f2,Nat.mul_div_cancel _ hs0]at hv5
    exact⟨_,_,rfl,(SzN.of_row (hQ.below hb5 hQ.lt) 0 _ _ (by omega) (fun j _ _=>hI.okQ j)).conv f1,hv5,hB.trans (hb5.mono hB.size)⟩
  · have e1:((k+1:Nat):Int)-1=(k:Int):=by omega
    rw[e1]
    clear e1
    obtain⟨x1,x2,x3⟩:=hI.window hk hV1
    have htk:=takeOut_any g1 k (L+1-k) (L+1) n R D m' dc wr hR (fun j _ _=>hI.okR j) (by omega) (by omega) hD hDo okD hm' hV2 (by rw[HVD2.out];exact x2)
    rw[HVD2.out]at htk
    have HTK:=Lib.hid htk
    clear htk x1 x2 x3
    go_wp2_with fail
    rw[show k+(n+1)+1-k=n+2 by omega]
    refine HTK.out.mono ?_
    rintro e w5 ⟨R',rfl,hout,hok,hmod,hR5,hO5⟩
    have hst:=hI.step hk hV1 hV0 hout hok hmod
    have hQ5:=hQ.only hO5 (Ne.symm hne)
    have hD5:=hD.only hDo hO5
    have hB5:=hB.trans (hO5.to_below hg1 hB.size)
    generalize vf R k (n+2)/V=q at hst ⊢
    have hcell:=hQ5.cell (i:=k) (by omega)
    have hfz:=hQ5.frozen k
    clear hI hR hQ hD hB hO5 hout hok hmod HTK
    go_wp2_with fail
    go_roundw
    case rel=>
     have hO6:=(Only.refl g2 w5).setCell k (.int .u32 (q:Int))
     exact⟨k,R',_,by omega,rfl,hst,hR5.only hO6 hne,hQ5.set k q rfl,hD5.only hDo2 hO6,hB5.trans (hO6.to_below hg2 hB5.size)⟩
    case measure=>simp[intOf]
end Go.Proofs.YtbijncndjlmmdaaGreatDoor
namespace Go.Proofs.YtbijncndjlmmdaaGreatDoor
set_option linter.unusedVariables false
set_option linter.unusedSimpArgs false
open Go.RowKit
theorem SzN.nil (w:World) (c:Nat):SzN w (.slice none 0 c) 0:=⟨none,[],c,rfl,.inl ⟨rfl,rfl⟩,ok_nil,norm_nil,rfl⟩
theorem SzN.below {w w':World} {v:Value} {x:Nat} (h:SzN w v x) (hb:Below w.heap.size w w'):SzN w' v x:=by
 obtain⟨A,l,c,e,h1,h2⟩:=h
 exact⟨A,l,c,e,h1.below hb,h2⟩
theorem Drawn.below {B:Nat} {w w':World} (h:Drawn w w'):Below B w w':=by obtain⟨n,rfl⟩:=h;exact⟨rfl,rfl,rfl,Nat.le_refl _,fun _ _=>rfl⟩
theorem Rw.one (w:World) (v:Nat):Rw (w.alloc (.cells #[.int .u32 (v:Int)] 195)) w.heap.size 1 (fun _=>v):=
 World.rowIs_alloc w #[.int .u32 (v:Int)] _ _ fun i hi=>by
  have:i=0:=by simp at hi;exact hi
  subst this;rfl
theorem cut_any (A B:Option Addr) (l m:List Nat) (c d:Nat) (w:World) (hA:Sz w A l) (hB:Sz w B m) (ol:Ok l) (om:Ok m) (nl:Norm l) (nm:Norm m) (hl:l.length≤900) (hm:m.length≤900) (hne:m≠[]):
 Calls Tryz.prog 286 #[.slice A l.length c,.slice B m.length d] w (ClPost (val l) (val m) w):=by
 have hcmp:=compared_any A B l m c d w hA hB ol om nl nm (by unfold maxLen;omega) (by unfold maxLen;omega)
 have hV:0<val m:=Nat.pos_of_ne_zero fun h=>hne ((norm_val_zero nm).1 h)
 by_cases hlt:val l<val m
 · have hz:CmpVal l m= -1:=cmpN_lt hlt
   rw[hz]at hcmp
   have HC:=Lib.hid hcmp
   clear hcmp hz
   go_enter Tryz.func286,Tryz.ntmps286
   go_wp2_with fail
   refine HC.out.mono ?_
   rintro e w1 ⟨rfl,hD⟩
   go_wp2_with fail
   go_ret2
   exact⟨_,_,rfl,(SzN.nil _ _).conv (Nat.div_eq_of_lt hlt).symm,⟨A,l,c,rfl,hA.drawn hD,ol,nl,(Nat.mod_eq_of_lt hlt).symm⟩,hD.below⟩
 · have hz:¬(CmpVal l m<0):=by
    unfold CmpVal cmpN;split
    · omega
    · split<;>omega
   obtain⟨z,hzz⟩:∃z,z=CmpVal l m:=⟨_,rfl⟩
   rw[←hzz]at hcmp hz
   have HC:=Lib.hid hcmp
   clear hcmp hzz
   have hml:m.length≤l.length:=by
    rcases Nat.lt_or_ge l.length m.length with h|h
    · exact absurd (norm_len_lt ol nm h) hlt
    · exact h
   by_cases h2:1<m.length
   · obtain⟨n,hn⟩:∃n,m.length=n+1:=⟨m.length-1,by omega⟩
     have hcl:=fun(w1:World) (hA1:Sz w1 A l) (hB1:Sz w1 B m)=>cutLong_any A B l m l.length n c d w1 hA1 hB1 ol om nm rfl hn hl (by omega)
     rw[←hn]at hcl
     have HCL:=Lib.hid hcl
     clear hcl hn
     go_enter Tryz.func286,Tryz.ntmps286
     go_wp2_with fail
     refine HC.out.mono ?_
     rintro e w1 ⟨rfl,hD⟩
     go_wp2_with fail
     refine(HCL.out _ (hA.drawn hD) (hB.drawn hD)).mono ?_
     rintro e w2 ⟨v,u,rfl,hv,hu,hb⟩
     go_wp2_with fail
     go_ret2
     exact⟨_,_,rfl,hv,hu,(hD.below (B:=w.heap.size)).trans (hb.mono (by rw[hD.heap];exact Nat.le_refl _))⟩
   · have h1:m.length=1:=by
      have:0<m.length:=List.length_pos_iff.2 hne
      omega
     obtain⟨p,rfl⟩:=List.length_eq_one_iff.1 h1
     obtain⟨b,o,rfl,hblt,hcell⟩:=hB.at_ hne
     have hp0:0<p:=by simpa[val]using hV
     have hpB:p<1000000000:=om p (by simp)
     have hcp:∀w1,Drawn w w1→w1.cell? ⟨b,o,none⟩=some (.int .u32 (p:Int)):=fun w1 h=>(h.cell _).trans (by simpa using hcell 0 (by simp))
     have HCP:=Lib.hid hcp
     clear hcp hcell h2 hV hne h1
     have hlen1:[p].length=1:=rfl
     go_enter Tryz.func286,Tryz.ntmps286
     go_wp2_with fail
     refine HC.out.mono ?_
     rintro e w1 ⟨rfl,hD⟩
     have hc1:=HCP.out w1 hD
     go_wp2_with fail
     refine(cutByPart_any A l c p _ (hA.drawn hD) ol (by omega) hp0 hpB).mono ?_
     rintro e w2 ⟨v,rfl,hv,hb⟩
     go_wp2_with fail
     have hR:=Rw.one w2 (val l%p)
     have hlt2:∀j,0≤j→j<0+1→(fun _:Nat=>val l%p) j<1000000000:=fun j _ _=>Nat.lt_trans (Nat.mod_lt _ hp0) hpB
     refine(trimmed_row w2.heap.size 0 1 1 1 _ _ hR (by omega) hlt2 (by omega) (by unfold maxLen;omega)).mono ?_
     rintro e w3 ⟨rfl,rfl⟩
     go_wp2_with fail
     go_ret2
     have hb2:Below w.heap.size w w2:=(hD.below (B:=w.heap.size)).trans (hb.mono (by rw[hD.heap];exact Nat.le_refl _))
     have ev:val [p]=p:=by simp[val]
     rw[ClPost,ev]
     exact⟨_,_,rfl,hv.below ((Below.refl _ _).alloc (Nat.le_refl _) _),(SzN.of_row hR 0 1 1 (by omega) hlt2).conv (by simp[vf]),hb2.alloc hb2.size _⟩
end Go.Proofs.YtbijncndjlmmdaaGreatDoor
namespace Go.Proofs.YtbijncndjlmmdaaGreatDoor
set_option linter.unusedVariables false
set_option linter.unusedSimpArgs false
open Go.Lib
theorem snocInd {α:Type} {P:List α→Prop} (nil:P []) (snoc:∀m c,P m→P (m++[c])) (l:List α):P l:=by
 have:∀r:List α,P r.reverse:=by
  intro r
  induction r with
  |nil=>exact nil
  |cons a r ih=>rw[List.reverse_cons];exact snoc _ _ ih
 have h:=this l.reverse
 rwa [List.reverse_reverse]at h
def dval (l:List UInt8):Nat:=l.foldl (fun a c=>a*10+(c.toNat-48)) 0
def AllDig (l:List UInt8):Prop:=∀c∈l,48≤c.toNat∧c.toNat≤57
theorem dval_snoc (l:List UInt8) (c:UInt8):dval (l++[c])=dval l*10+(c.toNat-48):=by simp[dval]
theorem dval_append (l m:List UInt8):dval (l++m)=dval l*10^m.length+dval m:=by
 induction m using snocInd with
 |nil=>simp[dval]
 |snoc m c ih=>
  rw[←List.append_assoc,dval_snoc,ih,dval_snoc,List.length_append]
  simp only[List.length_cons,List.length_nil,Nat.zero_add,Nat.pow_succ]
  rw[Nat.add_mul,Nat.mul_assoc];omega
theorem dval_cons (c:UInt8) (l:List UInt8):dval (c::l)=(c.toNat-48)*10^l.length+dval l:=by
 rw[show c::l=[c]++l from rfl,dval_append];simp[dval]
theorem allDig_nil:AllDig []:=by simp[AllDig]
theorem allDig_append {l m:List UInt8}:AllDig (l++m)↔AllDig l∧AllDig m:=by
 simp only[AllDig,List.mem_append]
 exact⟨fun h=>⟨fun p hp=>h p (.inl hp),fun p hp=>h p (.inr hp)⟩,fun h p hp=>hp.elim (h.1 p) (h.2 p)⟩
theorem allDig_cons {c:UInt8} {l:List UInt8}:AllDig (c::l)↔(48≤c.toNat∧c.toNat≤57)∧AllDig l:=by simp[AllDig]
theorem allDig_take {l:List UInt8} (h:AllDig l) (k:Nat):AllDig (l.take k):=fun p hp=>h p (List.mem_of_mem_take hp)
theorem allDig_drop {l:List UInt8} (h:AllDig l) (k:Nat):AllDig (l.drop k):=fun p hp=>h p (List.mem_of_mem_drop hp)
theorem dval_lt {l:List UInt8} (h:AllDig l):dval l<10^l.length:=by
 induction l using snocInd with
 |nil=>simp[dval]
 |snoc m c ih=>
  obtain⟨h1,h2⟩:=allDig_append.1 h
  have h3:=ih h1
  have h4:=(allDig_cons.1 h2).1
  rw[dval_snoc,List.length_append]
  simp only[List.length_cons,List.length_nil,Nat.zero_add,Nat.pow_succ]
  omega
theorem dig_toNat {d:Nat} (h:d<10):(UInt8.ofNat (48+d)).toNat=48+d:=by
 rw[UInt8.toNat_ofNat'];omega
theorem decDigits_small {n:Nat} (h:n<10):decDigits n=[UInt8.ofNat (48+n)]:=by rw[decDigits,dif_pos h]
theorem decDigits_big {n:Nat} (h:¬n<10):decDigits n=decDigits (n/10)++[UInt8.ofNat (48+n%10)]:=by rw[decDigits,dif_neg h]
theorem decDigits_all (n:Nat):AllDig (decDigits n)∧dval (decDigits n)=n:=by
 induction n using Nat.strongRecOn with
 |ind n ih=>
  by_cases h:n<10
  · rw[decDigits_small h]
    have:=dig_toNat h
    exact⟨allDig_cons.2 ⟨by omega,allDig_nil⟩,by rw[dval_cons,this];simp[dval]⟩
  · rw[decDigits_big h]
    obtain⟨h1,h2⟩:=ih (n/10) (by omega)
    have:=dig_toNat (show n%10<10 by omega)
    exact⟨allDig_append.2 ⟨h1,allDig_cons.2 ⟨by omega,allDig_nil⟩⟩,by rw[dval_snoc,h2,this];omega⟩
theorem dval_decDigits (n:Nat):dval (decDigits n)=n:=(decDigits_all n).2
theorem decDigits_dig (n:Nat):AllDig (decDigits n):=(decDigits_all n).1
theorem decDigits_ne (n:Nat):decDigits n≠[]:=by
 by_cases h:n<10
 · rw[decDigits_small h];simp
 · rw[decDigits_big h];simp
theorem decDigits_inj {a b:Nat} (h:decDigits a=decDigits b):a=b:=by rw[←dval_decDigits a,h,dval_decDigits]
theorem u8_ext {a b:UInt8} (h:a.toNat=b.toNat):a=b:=UInt8.toNat_inj.1 h
theorem decDigits_head (n:Nat) (h:0<n):∃c r,decDigits n=c::r∧c.toNat≠48:=by
 induction n using Nat.strongRecOn with
 |ind n ih=>
  by_cases h10:n<10
  · rw[decDigits_small h10]
    exact⟨_,[],rfl,by rw[dig_toNat h10];omega⟩
  · rw[decDigits_big h10]
    obtain⟨c,r,e,hc⟩:=ih (n/10) (by omega) (by omega)
    exact⟨c,r++[_],by rw[e];rfl,hc⟩
theorem decDigits_of:∀(l:List UInt8),AllDig l→l≠[]→(l.length=1∨∃c r,l=c::r∧c.toNat≠48)→l=decDigits (dval l):=by
 intro l
 induction l using snocInd with
 |nil=>intro _ h;exact absurd rfl h
 |snoc m c ih=>
  intro h _ h2
  obtain⟨h3,h4⟩:=allDig_append.1 h
  have h5:=(allDig_cons.1 h4).1
  by_cases hm:m=[]
  · subst hm
    have e:dval ([]++[c])=c.toNat-48:=by rw[dval_snoc];simp[dval]
    rw[e,decDigits_small (by omega)]
    simp only[List.nil_append]
    congr 1
    exact u8_ext (by rw[dig_toNat (by omega)];omega)
  · have hlen:0<m.length:=List.length_pos_iff.2 hm
    obtain⟨d,r,e,hd⟩:∃d r,m=d::r∧d.toNat≠48:=by
     rcases h2 with h2|⟨d,r,e,hd⟩
     · rw[List.length_append]at h2;simp only[List.length_cons,List.length_nil]at h2;omega
     · cases m with
       |nil=>exact absurd rfl hm
       |cons d' r'=>
        simp only[List.cons_append,List.cons.injEq]at e
        exact⟨d',r',rfl,by rw[e.1];exact hd⟩
    have hi:=ih h3 hm (.inr ⟨d,r,e,hd⟩)
    have hpos:0<dval m:=by
     rw[e,dval_cons]
     rw[e]at h3
     have:=(allDig_cons.1 h3).1
     have hp:0<10^r.length:=Nat.pow_pos (by decide)
     have:0<(d.toNat-48)*10^r.length:=Nat.mul_pos (by omega) hp
     omega
    rw[dval_snoc,decDigits_big (n:=dval m*10+(c.toNat-48)) (by omega),show(dval m*10+(c.toNat-48))/10=dval m by omega,←hi,show(dval m*10+(c.toNat-48))%10=c.toNat-48 by omega]
    congr 2
    exact u8_ext (by rw[dig_toNat (by omega)];omega)
theorem decDigits_len_le {n k:Nat} (hk:0<k):(decDigits n).length≤k↔n<10^k:=by
 rw[decDigits_length]
 constructor
 · intro h
   exact Nat.lt_of_lt_of_le (lt_pow_nDigits n) (Nat.pow_le_pow_right (by decide) h)
 · intro h
   by_cases hz:n<10
   · rw[nDigits_small hz];exact hk
   · have:∀n,10≤n→10^(nDigits n-1)≤n:=by
      intro n
      induction n using Nat.strongRecOn with
      |ind n ih=>
       intro hn
       rw[nDigits_big (by omega),Nat.add_sub_cancel]
       by_cases h2:n/10<10
       · rw[nDigits_small h2];omega
       · have h3:=ih (n/10) (by omega) (by omega)
         have h4:=nDigits_pos (n/10)
         have:10^nDigits (n/10)=10^(nDigits (n/10)-1)*10:=by rw[←Nat.pow_succ];congr 1;omega
         omega
     have h1:=this n (by omega)
     have h2:nDigits n-1<k:=(Nat.pow_lt_pow_iff_right (a:=10) (by decide)).1 (by omega)
     omega
theorem decDigits_len_pos (n:Nat):0<(decDigits n).length:=List.length_pos_iff.2 (decDigits_ne n)
theorem decDigits_pad {r k:Nat} (h:r<10^k):(decDigits (10^k+r)).drop 1=(decDigits (10^k+r)).drop 1∧dval ((decDigits (10^k+r)).drop 1)=r∧((decDigits (10^k+r)).drop 1).length=k:=by
 have hl:(decDigits (10^k+r)).length=k+1:=by
  rw[decDigits_length]
  exact nDigits_unique k _ (by omega) (by rw[Nat.pow_succ];omega)
 refine⟨rfl,?_,by rw[List.length_drop];omega⟩
 obtain⟨c,l,e⟩:∃c l,decDigits (10^k+r)=c::l:=by
  cases h:decDigits (10^k+r)with
  |nil=>exact absurd h (decDigits_ne _)
  |cons c l=>exact⟨c,l,rfl⟩
 have hd:=dval_decDigits (10^k+r)
 have ha:=decDigits_dig (10^k+r)
 rw[e]at hd ha hl ⊢
 rw[dval_cons]at hd
 simp only[List.length_cons]at hl
 have hlk:l.length=k:=by omega
 have h2:=dval_lt (allDig_cons.1 ha).2
 have h3:=(allDig_cons.1 ha).1
 rw[hlk]at hd h2
 show dval l=r
 have hq:c.toNat-48=1:=by
  rcases Nat.lt_trichotomy (c.toNat-48) 1 with h4|h4|h4
  · have:c.toNat-48=0:=by omega
    rw[this]at hd;omega
  · exact h4
  · have:2*10^k≤(c.toNat-48)*10^k:=Nat.mul_le_mul_right _ h4
    omega
 rw[hq]at hd;omega
theorem decDigits_join {q r k:Nat} (hq:0<q) (h:r<10^k):decDigits q++(decDigits (10^k+r)).drop 1=decDigits (q*10^k+r):=by
 obtain⟨_,h1,h2⟩:=decDigits_pad h
 have ha:AllDig (decDigits q++(decDigits (10^k+r)).drop 1):=allDig_append.2 ⟨decDigits_dig q,allDig_drop (decDigits_dig _) 1⟩
 obtain⟨c,l,e,hc⟩:=decDigits_head q hq
 have h3:=decDigits_of _ ha (by rw[e];simp) (.inr ⟨c,l++_,by rw[e];rfl,hc⟩)
 rw[h3,dval_append,dval_decDigits,h1,h2]
end Go.Proofs.YtbijncndjlmmdaaGreatDoor
namespace Go.Proofs.YtbijncndjlmmdaaGreatDoor
set_option linter.unusedVariables false
set_option linter.unusedSimpArgs false
open Go.RowKit
theorem take_snoc (s:ByteArray) (k:Nat) (h:k<s.size):s.data.toList.take (k+1)=s.data.toList.take k++[s[k]]:=by
 rw[List.take_succ_eq_append_getElem (by simpa using h)];rfl
theorem dval_take_lt (s:ByteArray) (k:Nat) (hd:AllDig s.data.toList) (h9:s.size≤9) (hk:k<s.size):dval (s.data.toList.take k)<100000000:=by
 have:=dval_lt (allDig_take hd k)
 have hl:(s.data.toList.take k).length≤k:=List.length_take_le _ _
 have:10^(s.data.toList.take k).length≤10^8:=Nat.pow_le_pow_right (by decide) (by omega)
 omega
theorem dig_get (s:ByteArray) (k:Nat) (hd:AllDig s.data.toList) (hk:k<s.size):48≤(s[k]).toNat∧(s[k]).toNat≤57:=hd _ (by
 have:s.data.toList[k]'(by simpa using hk)=s[k]:=rfl
 rw[←this];exact List.getElem_mem _)
theorem readPart_any (s:ByteArray) (w:World) (hs:s.size≤9) (hd:AllDig s.data.toList):
 Calls Tryz.prog 309 #[.string s] w fun e w'=>e=.returned (.int .u32 (dval s.data.toList:Nat))∧w=w':=by
 go_enter Tryz.func309,Tryz.ntmps309
 go_wp2_with fail
 go_loop [3,7] (fun p i=>∃k:Nat,k≤s.size∧i=.int .i64 k∧p=.int .u32 (dval (s.data.toList.take k):Nat)) (fun _ i=>s.size-(intOf i).toNat)
 case atStart=>exact⟨0,Nat.zero_le _,rfl,rfl⟩
 case round=>
  obtain⟨k,hk,rfl,rfl⟩:=hrel
  by_cases hlt:k<s.size
  · have hb:=dval_take_lt s k hd hs hlt
    have hc:=dig_get s k hd hlt
    have HS:=Lib.hid ((congrArg dval (take_snoc s k hlt)).trans (dval_snoc _ _))
    have h0:(0:Int)≤(dval (s.data.toList.take k):Nat):=Int.natCast_nonneg _
    go_wp2_with fail
    go_round
    case rel=>exact⟨k+1,by omega,by go_num,by rw[HS.out];go_num⟩
    case measure=>simp[intOf];omega
  · go_wp2_with fail
    go_ret
    exact⟨ret_int (by rw[List.take_of_length_le (by simp;omega)]),rfl⟩
end Go.Proofs.YtbijncndjlmmdaaGreatDoor

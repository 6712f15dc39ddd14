import Derived.Test.YtcfbjdplhgdpfaaGreatDoorMab
set_option maxHeartbeats 1600000
set_option maxRecDepth 10000
namespace Go.Proofs.YtcfbjdplhgdpfaaGreatDoor
set_option linter.unusedVariables false
set_option linter.unusedSimpArgs false
open Go.RowKit
theorem vf_cons (F:Nat→Nat) (o n:Nat):vf F o (n+1)=F o+1000000000*vf F (o+1) n:=by
 rw[show n+1=1+n by omega,vf_split];simp[vf]
structure CbInv (l:List Nat) (p k r:Nat) (F:Nat→Nat):Prop where
 lt:r<p
 ok:∀j,F j<1000000000
 eq:vf F k (l.length-k)*p+r=val (l.drop k)
theorem CbInv.start (l:List Nat) (p:Nat) (hp:0<p):CbInv l p l.length 0 (fun _=>0):=⟨hp,fun _=>by decide,by simp[vf,val]⟩
theorem quo_lt {p k r x:Nat} (hr:r<p) (hx:x<1000000000):(r*1000000000+x)/p<1000000000:=by
 rw[Nat.div_lt_iff_lt_mul (by omega)]
 have:(r+1)*1000000000≤p*1000000000:=Nat.mul_le_mul_right _ hr
 omega
theorem CbInv.step {l:List Nat} {p k r:Nat} {F:Nat→Nat} (h:CbInv l p (k+1) r F) (hk:k<l.length) (ol:Ok l):
 CbInv l p k ((r*1000000000+l[k])%p) (upd F k ((r*1000000000+l[k])/p)):=by
 have hlt:=h.lt
 refine⟨Nat.mod_lt _ (by omega),fun j=> ?_,?_⟩
 · unfold upd;split
   · exact quo_lt (k:=0) hlt (ok_get ol hk)
   · exact h.ok j
 · have e:=h.eq
   rw[show l.length-k=(l.length-(k+1))+1 by omega,vf_cons,vf_upd_out (.inl (by omega)),show upd F k ((r*1000000000+l[k])/p) k=(r*1000000000+l[k])/p by unfold upd;rw[if_pos rfl]]
   rw[List.drop_eq_getElem_cons hk,val_cons,←e,Nat.add_mul,Nat.mul_add]
   have h1:=Nat.div_add_mod (r*1000000000+l[k]) p
   rw[Nat.mul_comm]at h1
   rw[Nat.mul_assoc 1000000000]
   omega
theorem cb_end {l:List Nat} {p r:Nat} {F:Nat→Nat} (h:CbInv l p 0 r F):vf F 0 l.length=val l/p∧r=val l%p:=by
 have e:=h.eq
 have hlt:=h.lt
 rw[Nat.sub_zero,List.drop_zero]at e
 have e2:val l=r+p*vf F 0 l.length:=by rw[Nat.mul_comm];omega
 constructor
 · rw[e2,Nat.add_mul_div_left _ _ (by omega),Nat.div_eq_of_lt hlt,Nat.zero_add]
 · rw[e2,Nat.add_mul_mod_self_left,Nat.mod_eq_of_lt hlt]
theorem quo_int (r a p:Nat):(((r*1000000000+a)/p:Nat):Int)=((r:Int)*1000000000+(a:Int))/(p:Int):=by
 rw[Int.natCast_ediv,Int.natCast_add,Int.natCast_mul];rfl
theorem rem_int (r a p:Nat):(((r*1000000000+a)%p:Nat):Int)=((r:Int)*1000000000+(a:Int))%(p:Int):=by
 rw[Int.natCast_emod,Int.natCast_add,Int.natCast_mul];rfl
theorem cutByPart_any (A:Option Addr) (l:List Nat) (c p:Nat) (w:World) (hA:Sz w A l) (ol:Ok l) (hl:l.length≤1000) (hp:0<p) (hpB:p<1000000000):
 Calls Tryz.prog 269 #[.slice A l.length c,.int .u32 p] w fun e w'=>∃v,e=.returned (.tuple #[v,.int .u32 (val l%p:Nat)])∧SzN w' v (val l/p)∧Below w.heap.size w w':=by
 have hmk:=run_mkz l.length (l.length:Int) (by omega) (by omega)
 have hB0:∀X,Below w.heap.size w (w.alloc X):=fun X=>(Below.refl _ _).alloc (Nat.le_refl _) _
 have hR0:=Rw.made w l.length
 go_enter Tryz.func269,Tryz.ntmps269
 go_wp2_with fail
 have hO0:=Only.refl w.heap.size (w.alloc (.cells (madeCells #[.int .u32 0] l.length) 165))
 have hB1:=hB0 (.cells (madeCells #[.int .u32 0] l.length) 165)
 clear hmk hB0
 generalize w.alloc (.cells (madeCells #[.int .u32 0] l.length) 165)=w1 at hR0 hO0 hB1 ⊢
 have hA1:=hA.below hB1
 have hAo:=hA.off (Nat.le_refl _)
 obtain⟨g,hg⟩:∃g,g=w.heap.size:=⟨_,rfl⟩
 rw[←hg]at hR0 hO0 hB1 hAo ⊢
 have HG:=Lib.hid hg
 clear hg hA
 go_loopw [6,7] (fun rv i wr=>∃(k r:Nat) (F:Nat→Nat),k≤l.length∧i=.int .i64 ((k:Int)-1)∧rv=.int .u64 r∧CbInv l p k r F∧Rw wr g l.length F∧Only g w1 wr) (fun _ i _=>(intOf i+1).toNat)
 case atStart=>exact⟨l.length,0,_,Nat.le_refl _,rfl,rfl,CbInv.start l p hp,hR0,hO0⟩
 case round=>
  obtain⟨k,r,F,hk,rfl,rfl,hI,hR,hW⟩:=hrel
  have hr:=hI.lt
  rcases k with _|k
  · go_wp2_with fail
    refine(trimmed_row g 0 l.length l.length l.length F _ hR (by omega) (fun j _ _=>hI.ok j) (by omega) (by unfold maxLen;omega)).mono ?_
    rintro e w3 ⟨rfl,rfl⟩
    go_wp2_with fail
    go_ret2
    have hv:=cb_end hI
    exact⟨_,by rw[←hv.2];rfl,(SzN.of_row hR 0 _ _ (by omega) (fun j _ _=>hI.ok j)).conv hv.1,HG.out▸hB1.trans (hW.to_below (Nat.le_refl _) (by rw[HG.out];exact hB1.size))⟩
  · obtain⟨b,o,rfl,hlt',hcell'⟩:=(hA1.only hAo hW).at_ (by rintro rfl;simp at hk)
    have hcl:=hcell' k (by omega)
    have hpl:=ok_get ol (show k<l.length by omega)
    have hst:=hI.step (by omega) ol
    have hq:=quo_lt (k:=0) hr hpl
    have hm:=Nat.mod_lt (r*1000000000+l[k]) (show p>0 by omega)
    have hcell:=hR.cell (i:=k) (by omega)
    have hfz:=hR.frozen k
    have e1:((k+1:Nat):Int)-1=(k:Int):=by omega
    have q1:0≤((r:Int)*1000000000+(l[k]:Int))/(p:Int)∧((r:Int)*1000000000+(l[k]:Int))/(p:Int)≤999999999:=by
     rw[←quo_int];exact⟨Int.natCast_nonneg _,Int.ofNat_le.2 (show _≤999999999 from Nat.le_of_lt_succ hq)⟩
    have q2:0≤((r:Int)*1000000000+(l[k]:Int))%(p:Int)∧((r:Int)*1000000000+(l[k]:Int))%(p:Int)≤999999999:=by
     rw[←rem_int];exact⟨Int.natCast_nonneg _,Int.ofNat_le.2 (show _≤999999999 from Nat.le_of_lt_succ (Nat.lt_of_lt_of_le hm (by omega)))⟩
    rw[e1]
    clear e1 hcell' hA1 hR0 hO0
    go_wp2_with fail
    go_roundw
    case rel=>exact⟨k,_,_,by omega,rfl,by rw[rem_int],hst,hR.set _ _ (quo_int _ _ _).symm,hW.setCell _ _⟩
    case measure=>simp[intOf]
end Go.Proofs.YtcfbjdplhgdpfaaGreatDoor
namespace Go.Proofs.YtcfbjdplhgdpfaaGreatDoor
set_option linter.unusedVariables false
set_option linter.unusedSimpArgs false
open Go.RowKit
theorem guess_lo {A V N v q P:Nat} (hN:A<(N+1)*P) (hV:v*P≤V) (hv:0<v) (hq:q=N/v):A<(q+1)*V:=by
 have h1:N+1≤(q+1)*v:=by
  have:=Nat.lt_div_mul_add hv (a:=N)
  rw[←hq]at this
  rw[Nat.add_mul,Nat.one_mul];omega
 have h2:(N+1)*P≤(q+1)*v*P:=Nat.mul_le_mul_right _ h1
 have h3:(q+1)*v*P≤(q+1)*V:=by rw[Nat.mul_assoc];exact Nat.mul_le_mul_left _ hV
 omega
theorem guess_hi {A V N v q P:Nat} (hN:N*P≤A) (hV:V<(v+1)*P) (hq:q=N/v):q*V≤A+q*P:=by
 have h1:q*v≤N:=by rw[hq];exact Nat.div_mul_le_self _ _
 have h2:q*V≤q*((v+1)*P):=Nat.mul_le_mul_left _ (by omega)
 have h3:q*((v+1)*P)=q*v*P+q*P:=by rw[Nat.add_mul,Nat.mul_add,Nat.one_mul,Nat.mul_assoc]
 have h4:q*v*P≤N*P:=Nat.mul_le_mul_right _ h1
 omega
theorem guess_le {N v q:Nat} (hN:N<1000000000000000000) (hv:500000000≤v) (hq:q=N/v):q≤2000000000:=by
 rw[hq]
 have:N/v≤N/500000000:=Nat.div_le_div_left hv (by decide)
 omega
structure TkInv (A V P:Nat) (t:Nat) (below:Bool) (R:Nat):Prop where
 lo:A<(t+1)*V
 no:below=false→t*V≤A∧R+t*V=A
 yes:below=true→A<t*V∧R+t*V=A+P
theorem TkInv.start {A V P q c R:Nat} (hlo:A<(q+1)*V) (he:R+q*V=A+P*c) (hR:R<P) (hhi:q*V≤A+P) (hP:0<P):TkInv A V P q (decide (0<c)) R∧c≤1:=by
 have hc:c≤1:=by
  rcases Nat.lt_or_ge 1 c with h|h
  · have:P*2≤P*c:=Nat.mul_le_mul_left _ h
    omega
  · exact h
 have:c=0∨c=1:=by omega
 rcases this with rfl|rfl
 · exact⟨⟨hlo,fun _=>⟨by omega,by omega⟩,fun h=>by simp at h⟩,hc⟩
 · exact⟨⟨hlo,fun h=>by simp at h,fun _=>⟨by omega,by omega⟩⟩,hc⟩
theorem TkInv.next {A V P t R c R':Nat} (h:TkInv A V P t true R) (he:R'+P*c=R+V) (hc:c≤1) (hA:A<P) (hR':R'<P):1≤t∧TkInv A V P (t-1) (!decide (0<c)) R':=by
 obtain⟨h1,h2⟩:=h.yes rfl
 have ht:1≤t:=by
  rcases Nat.eq_zero_or_pos t with h0|h0
  · subst h0;omega
  · exact h0
 refine⟨ht,?_⟩
 obtain⟨s,rfl⟩:∃s,t=s+1:=⟨t-1,by omega⟩
 rw[Nat.add_sub_cancel]
 have h3:(s+1)*V=s*V+V:=by rw[Nat.add_mul,Nat.one_mul]
 rw[h3]at h1 h2
 have:c=0∨c=1:=by omega
 rcases this with rfl|rfl
 · refine⟨by rw[h3];omega,fun h=>by simp at h,fun _=>⟨?_,by omega⟩⟩
   omega
 · exact⟨by rw[h3];omega,fun _=>⟨by omega,by omega⟩,fun h=>by simp at h⟩
theorem TkInv.fin {A V P t R:Nat} (h:TkInv A V P t false R):t=A/V∧R=A%V:=by
 obtain⟨h1,h2⟩:=h.no rfl
 have h3:=h.lo
 rw[Nat.add_mul,Nat.one_mul]at h3
 have hV:0<V:=by omega
 have e:A=R+V*t:=by rw[Nat.mul_comm];omega
 have hR:R<V:=by omega
 constructor
 · rw[e,Nat.add_mul_div_left _ _ hV,Nat.div_eq_of_lt hR,Nat.zero_add]
 · rw[e,Nat.add_mul_mod_self_left,Nat.mod_eq_of_lt hR]
theorem top_two {F:Nat→Nat} {o n:Nat} (hF:∀j,o≤j→j<o+(n+2)→F j<1000000000):
 (F (o+(n+1))*1000000000+F (o+n))*1000000000^n≤vf F o (n+2)∧vf F o (n+2)<(F (o+(n+1))*1000000000+F (o+n)+1)*1000000000^n:=by
 have h1:vf F o n<1000000000^n:=vf_lt fun j a b=>hF j a (by omega)
 have e:vf F o (n+2)=vf F o n+(F (o+(n+1))*1000000000+F (o+n))*1000000000^n:=by
  show vf F o n+1000000000^n*F (o+n)+1000000000^(n+1)*F (o+(n+1))=_
  rw[Nat.pow_succ,Nat.add_mul,Nat.mul_comm (F (o+n))]
  have:1000000000^n*1000000000*F (o+(n+1))=F (o+(n+1))*1000000000*1000000000^n:=by
   rw[Nat.mul_comm (F (o+(n+1))*1000000000),Nat.mul_assoc,Nat.mul_comm 1000000000 (F _)]
  omega
 rw[e,Nat.add_mul (F (o+(n+1))*1000000000+F (o+n)) 1]
 omega
theorem top_one {m:List Nat} {n:Nat} (om:Ok m) (hn:m.length=n+1):m.getD n 0*1000000000^n≤val m∧val m<(m.getD n 0+1)*1000000000^n:=by
 have h1:val (m.take n)<1000000000^n:=by
  have:=val_lt (ok_take om n)
  rwa [List.length_take,Nat.min_eq_left (by omega)]at this
 have e:=val_take_succ m n
 rw[List.take_of_length_le (by omega),Nat.mul_comm]at e
 rw[e,Nat.add_mul]
 omega
end Go.Proofs.YtcfbjdplhgdpfaaGreatDoor
namespace Go.Proofs.YtcfbjdplhgdpfaaGreatDoor
set_option linter.unusedVariables false
set_option linter.unusedSimpArgs false
open Go.RowKit
theorem two_int (a b v:Nat):(((a*1000000000+b)/v:Nat):Int)=((a:Int)*1000000000+(b:Int))/(v:Int):=quo_int a b v
def TkPost (w:World) (g o N n:Nat) (F:Nat→Nat) (V:Nat) (e:Ending) (w':World):Prop:=
 ∃F',e=.returned (.int .u32 (vf F o (n+2)/V:Nat))∧(∀j,j<o∨o+(n+2)≤j→F' j=F j)∧(∀j,o≤j→j<o+(n+2)→F' j<1000000000)∧vf F' o (n+2)=vf F o (n+2)%V∧Rw w' g N F'∧Only g w w'
theorem lower_len (g o n ca N:Nat) (F:Nat→Nat) (B:Option Addr) (m:List Nat) (ml cb:Nat) (q:Nat) (w:World) (hlen:m.length=ml) (hR:Rw w g N F) (hF:∀j,o≤j→j<o+n→F j<1000000000) (hn:o+n≤N) (hN:N≤maxLen)
 (hB:Sz w B m) (hO:Off B g) (om:Ok m) (hm:ml≤maxLen) (hq:q≤2000000000):
 Calls Tryz.prog 267 #[.slice (some ⟨g,o,none⟩) n ca,.slice B ml cb,.int .u64 q] w fun e w'=>∃c F',e=.returned (.bool (decide (0<c)))∧LowerInv F m q o n c F'∧Rw w' g N F'∧Only g w w':=by
 subst hlen;exact lower_any g o n ca N F B m cb q w hR hF hn hN hB hO om hm hq
theorem raise_len (g o n ca N:Nat) (F:Nat→Nat) (B:Option Addr) (m:List Nat) (ml cb:Nat) (w:World) (hlen:m.length=ml) (hR:Rw w g N F) (hF:∀j,o≤j→j<o+n→F j<1000000000) (hn:o+n≤N) (hN:N≤maxLen)
 (hB:Sz w B m) (hO:Off B g) (om:Ok m) (hm:ml≤maxLen):
 Calls Tryz.prog 264 #[.slice (some ⟨g,o,none⟩) n ca,.slice B ml cb] w fun e w'=>∃c F',e=.returned (.bool (decide (0<c)))∧RaiseInv F m o n c F'∧Rw w' g N F'∧Only g w w':=by
 subst hlen;exact raise_any g o n ca N F B m cb w hR hF hn hN hB hO om hm
structure TkFacts (A V P q:Nat):Prop where
 lo:A<(q+1)*V
 hi:q*V≤A+P
 lt:A<P
 pos:0<P
 few:A<1000000000*V
theorem takeOut_any (g o ca N n:Nat) (F:Nat→Nat) (B:Option Addr) (m:List Nat) (d:Nat) (w:World) (hR:Rw w g N F) (hF:∀j,o≤j→j<o+(n+2)→F j<1000000000) (hn:o+(n+2)≤N) (hN:N≤2000)
 (hB:Sz w B m) (hO:Off B g) (om:Ok m) (hm:m.length=n+1) (hv:500000000≤m.getD n 0) (hlt:vf F o (n+2)<1000000000*val m):
 Calls Tryz.prog 275 #[.slice (some ⟨g,o,none⟩) (n+2) ca,.slice B (n+1) d] w (TkPost w g o N n F (val m)):=by
 obtain⟨b,o',rfl,hlt',hcell'⟩:=hB.at_ (by rintro rfl;simp at hm)
 have hcm:=hcell' n (by omega)
 have em:m.getD n 0=m[n]:=by rw[List.getD_eq_getElem?_getD,List.getElem?_eq_getElem (by omega)];rfl
 have hc1:=hR.cell (i:=o+(n+1)) (by omega)
 have hc0:=hR.cell (i:=o+n) (by omega)
 have f1:=hF (o+(n+1)) (by omega) (by omega)
 have f0:=hF (o+n) (by omega) (by omega)
 obtain⟨t1,t2⟩:=top_two hF
 obtain⟨m1,m2⟩:=top_one om hm
 rw[em]at hv m1 m2
 obtain⟨q,hq⟩:∃q,q=(F (o+(n+1))*1000000000+F (o+n))/m[n]:=⟨_,rfl⟩
 have hq0:=guess_le (by omega) hv hq
 have hlo:=guess_lo t2 m1 (by omega) hq
 have hhi:=guess_hi t1 m2 hq
 have hq2:((F (o+(n+1)):Int)*1000000000+(F (o+n):Int))/(m[n]:Int)=(q:Int):=by rw[hq,two_int]
 have hP:vf F o (n+2)<1000000000^(n+2):=vf_lt hF
 have hP2:q*1000000000^n≤1000000000^(n+2):=by
  rw[Nat.pow_succ,Nat.pow_succ,Nat.mul_assoc,Nat.mul_comm]
  exact Nat.mul_le_mul_left _ (by omega)
 have hVP:0<1000000000^(n+2):=Nat.pow_pos (by decide)
 have HL:TkFacts (vf F o (n+2)) (val m) (1000000000^(n+2)) q:=⟨hlo,by omega,hP,hVP,hlt⟩
 clear hlo hhi t1 t2 m1 m2 hP hP2 hVP hlt hq em hcell'
 go_enter Tryz.func275,Tryz.ntmps275
 go_wp2_with fail
 have x1:IntKind.i64.wrap ((n:Int)+1)=(n:Int)+1:=IntWalk.i64_in _ (by omega)
 have x2:((n:Int)+1).toNat=n+1:=by omega
 have x3:(n:Int)+1<(n:Int)+2:=by omega
 have x4:(0:Int)≤(n:Int)+1:=by omega
 have x5:(n:Int)<(n:Int)+2:=by omega
 have x7:(n:Int)<(n:Int)+1:=by omega
 have x8:IntKind.u64.wrap ((F (o+(n+1)):Int)*1000000000)=(F (o+(n+1)):Int)*1000000000:=IntWalk.u64_in _ (by omega)
 have x9:IntKind.u64.wrap ((F (o+(n+1)):Int)*1000000000+(F (o+n):Int))=(F (o+(n+1)):Int)*1000000000+(F (o+n):Int):=IntWalk.u64_in _ (by omega)
 have x10:IntKind.u64.wrap (((F (o+(n+1)):Int)*1000000000+(F (o+n):Int)).tdiv (m[n]:Int))=(q:Int):=by rw[IntWalk.u64_quo _ _ (by omega),hq2]
 have x11:IntKind.u64.wrap (F (o+(n+1)):Int)=(F (o+(n+1)):Int):=IntWalk.u64_in _ (by omega)
 have x12:IntKind.u64.wrap (F (o+n):Int)=(F (o+n):Int):=IntWalk.u64_in _ (by omega)
 have x13:IntKind.u64.wrap (m[n]:Int)=(m[n]:Int):=IntWalk.u64_in _ (by have:=ok_get om (show n<m.length by omega);omega)
 go_quiet (fail)
 clear x1 x2 x3 x4 x5 x7 x8 x9 x10 x11 x12 x13
 go_wp2_with fail
 refine(lower_len g o (n+2) ca N F _ m _ d q _ hm (hR.drewN _) hF (by omega) (by unfold maxLen;omega) (hB.drawn ⟨_,rfl⟩) hO om (by unfold maxLen;omega) hq0).mono ?_
 rintro e w2 ⟨c2,F2,rfl,hI,hR2,hO2⟩
 go_wp2_with fail
 have hst:TkInv (vf F o (n+2)) (val m) (1000000000^(n+2)) q (decide (0<c2)) (vf F2 o (n+2)):=by
  have e:=hI.eq
  rw[List.take_of_length_le (by omega)]at e
  exact(TkInv.start HL.lo e (vf_lt hI.ok) HL.hi HL.pos).1
 have ho2:Only g w w2:=((Only.refl g w).drewN nq).trans hO2
 have hout:=hI.out
 have hok:=hI.ok
 generalize decide (0<c2)=bl at hst ⊢
 clear hI hO2 hq2 hcm hc1 hc0 f1 f0 hF hR
 go_loopw [6,7] (fun tv bv wr=>∃(t:Nat) (bl:Bool) (F':Nat→Nat),tv=.int .u64 t∧t≤2000000000∧bv=.bool bl∧TkInv (vf F o (n+2)) (val m) (1000000000^(n+2)) t bl (vf F' o (n+2))∧(∀j,j<o∨o+(n+2)≤j→F' j=F j)∧(∀j,o≤j→j<o+(n+2)→F' j<1000000000)∧Rw wr g N F'∧Only g w wr) (fun tv _ _=>(intOf tv).toNat)
 case atStart=>exact⟨q,bl,F2,rfl,hq0,rfl,hst,hout,hok,hR2,ho2⟩
 case round=>
  clear hst ho2 hout hok hR2
  obtain⟨t,bl,F',rfl,ht,rfl,hI,hout,hok,hR',hW⟩:=hrel
  cases bl
  · obtain⟨e1,e2⟩:=hI.fin
    have ht2:t<1000000000:=by
     rw[e1];exact Nat.div_lt_of_lt_mul (by rw[Nat.mul_comm];exact HL.few)
    have HE:=Lib.hid e1
    clear e1
    go_wp2_with fail
    go_ret
    exact⟨F',ret_int (by rw[HE.out]),hout,hok,e2,hR',hW⟩
  · go_wp2_with fail
    refine(raise_len g o (n+2) ca N F' _ m _ d _ hm hR' hok (by omega) (by unfold maxLen;omega) (hB.only hO hW) hO om (by unfold maxLen;omega)).mono ?_
    rintro e w3 ⟨c3,F3,rfl,hJ,hR3,hO3⟩
    have he:=hJ.eq
    rw[List.take_of_length_le (by omega)]at he
    obtain⟨h1,h2⟩:=hI.next he hJ.le HL.lt (vf_lt hJ.ok)
    have hout3:∀j,j<o∨o+(n+2)≤j→F3 j=F j:=fun j hj=>(hJ.out j hj).trans (hout j hj)
    have hok3:=hJ.ok
    have hW3:=hW.trans hO3
    have hb3:(!decide (0<c3))=(!decide (0<c3)):=rfl
    generalize decide (0<c3)=b3 at h2 ⊢
    clear hI hout hok hR' hW he hJ hO3 hb3
    go_wp2_with fail
    go_roundw
    case rel=>exact⟨t-1,!b3,F3,by go_num,by omega,rfl,h2,hout3,hok3,hR3,hW3⟩
    case measure=>simp[intOf];omega
end Go.Proofs.YtcfbjdplhgdpfaaGreatDoor

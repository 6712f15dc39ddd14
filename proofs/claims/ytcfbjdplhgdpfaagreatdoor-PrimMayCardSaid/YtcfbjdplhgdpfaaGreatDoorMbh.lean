import Derived.Test.YtcfbjdplhgdpfaaGreatDoorMat
import Derived.Test.YtcfbjdplhgdpfaaGreatDoorMbg
import Derived.Test.YtcfbjdplhgdpfaaGreatDoorMas
namespace Go.Proofs.YtcfbjdplhgdpfaaGreatDoor
set_option linter.unusedVariables false
set_option linter.unusedSimpArgs false
open Go.RowKit
theorem orr_ex (f:Nat→Int):∀(k p q:Nat),q-p≤k→∃l,Orr f p q l
 | 0,_,_,h=>⟨[],Orr.none (by omega)⟩
 |k+1,p,q,h=>by
  by_cases hq:q≤p
  · exact⟨[],Orr.none hq⟩
  · obtain⟨l,hl⟩:=orr_ex f k (p+1) q (by omega)
    exact⟨_,Orr.merged (by omega) (by omega) (Orr.one (p:=p)) hl⟩
theorem or_ord (f:Nat→Int) (n:Nat):Ord f n (orL f n):=by
 obtain⟨l,hl⟩:=orr_ex f n 0 n (by omega)
 rw[orL_is hl.ord];exact hl.ord
theorem intL_len (l:List Nat):(intL l).length=l.length:=by simp[intL]
theorem intL_rok {t:Nat} {L:List Nat} (hl:L.length=t) (ht:t≤4096) (hb:∀i∈L,i≤1099511627776):Rok (some ([(t:Int)],intL L)):=
 vec_rok ht (by rw[intL_len,hl]) fun x hx=>by
  obtain⟨i,hi,rfl⟩:=List.mem_map.1 hx
  have:=hb i hi
  exact small_rok (by omega)
theorem or_rok (f:Nat→Int) {n:Nat} (hn:n≤4096):Rok (some ([(n:Int)],intL (orL f n))):=
 intL_rok (or_ord f n).len hn fun i hi=>by have:=((or_ord f n).all i).1 hi;omega
theorem wh_rok {l:List Nat} (h:l.sum≤4096) (hl:l.length≤4096):Rok (some ([(l.sum:Int)],intL (whS 0 l))):=
 intL_rok (wh_len 0 l) h fun i hi=>by have:=(wh_mem hi).2;omega
theorem un_rok {q:Ar} (h:Rok (some q)) (hl:q.2.length≤4096):Rok (some ([((unS q.2).length:Int)],unS q.2)):=
 vec_rok (Nat.le_trans (un_len q.2) hl) rfl fun x hx=>h.2.2 x (un_mem.1 hx)
theorem fd_rok {q r:Ar} (h:Rok (some r)) (hl:q.2.length≤4096):Rok (some (r.1,r.2.map fun x=>(fpS q.2 x:Int))):=
 ⟨h.1,by show((r.2.map fun x=>(fpS q.2 x:Int)).length:Int)=_;rw[List.length_map];exact h.2.1,fun x hx=>by
   obtain⟨y,_,rfl⟩:=List.mem_map.1 hx
   have:=fp_le q.2 y
   exact small_rok (by omega)⟩
theorem its_in {α:Type} {es:List α} {k:Nat}:∀{l:List Nat} {x:α},x∈its es k l→x∈es
 |[],_,h=>by cases h
 |i::r,x,h=>by
  rcases List.mem_append.1 h with h|h
  · exact List.mem_of_mem_drop (List.mem_of_mem_take h)
  · exact its_in h
theorem ix_rok {q r:Ar} (h:Rok (some q)) (hf:Fits q.1 q.2) (hl:q.1≠[]) (hr:Rok (some r)) (hz:szE (r.1++q.1.tail)=0) (hn:∀i∈natL r.2,i<nI q.1) (hk:0≤pr q.1.tail):Rok (some (r.1++q.1.tail,its q.2 (kI q.1) (natL r.2))):=by
 refine⟨hz,?_,fun x hx=>h.2.2 x (its_in hx)⟩
 show((its q.2 (kI q.1) (natL r.2)).length:Int)=pr (r.1++q.1.tail)
 rw[its_length (hf.cut hl) hn,pr_append,←hr.2.1,Int.natCast_mul]
 congr 1
 · simp[natL]
 · exact Int.toNat_of_nonneg hk
end Go.Proofs.YtcfbjdplhgdpfaaGreatDoor
namespace Go.Proofs.YtcfbjdplhgdpfaaGreatDoor
set_option linter.unusedVariables false
set_option linter.unusedSimpArgs false
open Go.RowKit
theorem up_yes (sg:Int) {q:Ar} (h:q.1.length=1):upK sg (some q)=(some ([(q.2.length:Int)],intL (orL (fun i=>sg*q.2.getD i 0) q.2.length)),0):=by
 unfold upK
 dsimp only
 rw[if_neg (fun e=>e h)]
theorem nears {l:List Int} (h:∀x∈l,0≤x∧x≤1099511627776):l.all nearM=true:=by
 rw[List.all_eq_true]
 exact fun x hx=>nearM_yes.2 (by have:=h x hx;omega)
theorem plE_yes {l:List Int} {s:List Int} {many:Int} (h:∀x∈l,0≤x∧x<many) (hm:many≤1099511627776):plE (s,l) many=0:=by
 unfold plE
 rw[nears (fun x hx=>by have:=h x hx;omega),if_neg (by simp),if_neg]
 rintro⟨x,hx,hc⟩
 have:=h x hx
 omega
theorem or_lt {f:Nat→Int} {n:Nat}:∀i∈orL f n,i<n:=fun i hi=>((or_ord f n).all i).1 hi
theorem or_len (f:Nat→Int) (n:Nat):(orL f n).length=n:=(or_ord f n).len
end Go.Proofs.YtcfbjdplhgdpfaaGreatDoor
namespace Go.Proofs.YtcfbjdplhgdpfaaGreatDoor
set_option linter.unusedVariables false
set_option linter.unusedSimpArgs false
def Told (r:Option Ar×Int):Prop:=(∃q,r=(some q,0))∨(∃k,r=(none,k)∧0<k∧k≤8)
theorem Told.yes (q:Ar):Told (some q,0):=.inl ⟨q,rfl⟩
theorem Told.no {k:Int} (h:0<k∧k≤8):Told (none,k):=.inr ⟨k,rfl,h⟩
theorem told_if {c:Prop} [Decidable c] {a b:Option Ar×Int} (ha:c→Told a) (hb:¬c→Told b):Told (if c then a else b):=by
 by_cases h:c
 · rw[if_pos h];exact ha h
 · rw[if_neg h];exact hb h
theorem inM_err (v:Ar) (h:(inM v).2≠0):0<(inM v).2∧(inM v).2≤8:=by
 unfold inM at h ⊢
 split
 · exact⟨by decide,by decide⟩
 · split
   · rename_i g g'
     rw[if_neg g,if_pos g']at h
     exact absurd rfl h
   · exact⟨by decide,by decide⟩
theorem szE_err (l:List Int) (h:szE l≠0):0<szE l∧szE l≤8:=by
 unfold szE at h ⊢
 split
 · exact⟨by decide,by decide⟩
 · split
   · exact⟨by decide,by decide⟩
   · split
     · exact⟨by decide,by decide⟩
     · split
       · exact⟨by decide,by decide⟩
       · simp_all
theorem plE_err (w:Ar) (m:Int) (h:plE w m≠0):0<plE w m∧plE w m≤8:=by
 unfold plE at h ⊢
 split
 · exact⟨by decide,by decide⟩
 · split
   · exact⟨by decide,by decide⟩
   · simp_all
theorem ioM_told (o:Option Ar):Told (ioM o):=by
 cases o with
 |none=>exact .no ⟨by decide,by decide⟩
 |some v=>exact told_if (fun h=>.no (inM_err v h)) fun _=>told_if (fun _=>.no ⟨by decide,by decide⟩) fun _=>told_if (fun _=>.no ⟨by decide,by decide⟩) fun _=>.yes _
theorem taM_told (o:Option Ar):Told (taM o):=by
 cases o with
 |none=>exact .no ⟨by decide,by decide⟩
 |some v=>exact .yes _
theorem shM_told (o:Option Ar):Told (shM o):=by
 cases o with
 |none=>exact .no ⟨by decide,by decide⟩
 |some v=>exact .yes _
theorem raM_told (o:Option Ar):Told (raM o):=by
 cases o with
 |none=>exact .no ⟨by decide,by decide⟩
 |some v=>exact .yes _
theorem reM_told (o:Option Ar):Told (reM o):=by
 cases o with
 |none=>exact .no ⟨by decide,by decide⟩
 |some v=>exact .yes _
theorem fiM_told (o:Option Ar):Told (fiM o):=by
 cases o with
 |none=>exact .no ⟨by decide,by decide⟩
 |some v=>exact .yes _
theorem upK_told (sg:Int) (o:Option Ar):Told (upK sg o):=by
 cases o with
 |none=>exact .no ⟨by decide,by decide⟩
 |some v=>exact told_if (fun _=>.no ⟨by decide,by decide⟩) fun _=>.yes _
theorem unK_told (o:Option Ar):Told (unK o):=by
 cases o with
 |none=>exact .no ⟨by decide,by decide⟩
 |some v=>exact told_if (fun _=>.no ⟨by decide,by decide⟩) fun _=>.yes _
theorem whK_told (o:Option Ar):Told (whK o):=by
 cases o with
 |none=>exact .no ⟨by decide,by decide⟩
 |some v=>
  unfold whK
  dsimp only
  exact told_if (fun _=>.no ⟨by decide,by decide⟩) fun _=>told_if (fun _=>.no ⟨by decide,by decide⟩) fun _=>told_if (fun _=>.no ⟨by decide,by decide⟩) fun _=>told_if (fun _=>.no ⟨by decide,by decide⟩) fun _=>.yes _
theorem fdK_told (o p:Option Ar):Told (fdK o p):=by
 cases o with
 |none=>exact .no ⟨by decide,by decide⟩
 |some v=>cases p with
  |none=>exact .no ⟨by decide,by decide⟩
  |some w=>exact told_if (fun _=>.no ⟨by decide,by decide⟩) fun _=>.yes _
theorem ixK_told (o p:Option Ar):Told (ixK o p):=by
 cases o with
 |none=>exact .no ⟨by decide,by decide⟩
 |some v=>cases p with
  |none=>exact .no ⟨by decide,by decide⟩
  |some w=>exact told_if (fun _=>.no ⟨by decide,by decide⟩) fun _=>told_if (fun h=>.no (plE_err _ _ h)) fun _=>told_if (fun h=>.no (szE_err _ h)) fun _=>.yes _
theorem rsM_told (o p:Option Ar):Told (rsM o p):=by
 cases o with
 |none=>exact .no ⟨by decide,by decide⟩
 |some v=>cases p with
  |none=>exact .no ⟨by decide,by decide⟩
  |some w=>exact told_if (fun _=>.no ⟨by decide,by decide⟩) fun _=>told_if (fun _=>.no ⟨by decide,by decide⟩) fun _=>told_if (fun h=>.no (szE_err _ h)) fun _=>told_if (fun _=>.no ⟨by decide,by decide⟩) fun _=>.yes _
theorem tkM_told (o p:Option Ar):Told (tkM o p):=by
 cases o with
 |none=>exact .no ⟨by decide,by decide⟩
 |some v=>cases p with
  |none=>exact .no ⟨by decide,by decide⟩
  |some w=>exact told_if (fun h=>.no (inM_err v h)) fun _=>told_if (fun _=>.no ⟨by decide,by decide⟩) fun _=>told_if (fun _=>.no ⟨by decide,by decide⟩) fun _=>told_if (fun _=>.yes _) fun _=>.yes _
theorem drM_told (o p:Option Ar):Told (drM o p):=by
 cases o with
 |none=>exact .no ⟨by decide,by decide⟩
 |some v=>cases p with
  |none=>exact .no ⟨by decide,by decide⟩
  |some w=>exact told_if (fun h=>.no (inM_err v h)) fun _=>told_if (fun _=>.no ⟨by decide,by decide⟩) fun _=>told_if (fun _=>.yes _) fun _=>.yes _
theorem jnM_told (o p:Option Ar):Told (jnM o p):=by
 cases o with
 |none=>exact .no ⟨by decide,by decide⟩
 |some v=>cases p with
  |none=>exact .no ⟨by decide,by decide⟩
  |some w=>exact told_if (fun _=>.no ⟨by decide,by decide⟩) fun _=>told_if (fun _=>.no ⟨by decide,by decide⟩) fun _=>told_if (fun h=>.no (szE_err _ h)) fun _=>.yes _
theorem near_big {x:Int} (h0:0≤x) (h:x≤1099511627776):nearM x=true:=nearM_yes.2 (by omega)
theorem upM_int (n:Nat):upM n=intL (List.range n):=rfl
theorem ix_all {q:Ar} (h:Fits q.1 q.2) (hne:q.1≠[]) (h4:q.1.getD 0 0≤4096):
 taM (some q)=(some ([],[q.1.getD 0 0]),0)∧ioM (some ([],[q.1.getD 0 0]))=(some ([q.1.getD 0 0],upM (nI q.1)),0)∧ixK (some q) (some ([q.1.getD 0 0],upM (nI q.1)))=(some q,0):=by
 have hn:=nI_head hne h.1
 have hl:q.1.length≠0:=fun e=>hne (List.length_eq_zero_iff.1 e)
 have hnr:nearM (q.1.getD 0 0)=true:=near_big (by omega) (by omega)
 have hin:=inM_num hnr
 refine⟨?_,?_,?_⟩
 · unfold taM maM
   dsimp only
   rw[if_neg hl]
 · unfold ioM
   dsimp only
   rw[hin,if_neg (fun e=>e rfl),if_neg (by show¬q.1.getD 0 0<0;omega),if_neg (by show¬4096<q.1.getD 0 0;omega)]
   rfl
 · have hp:plE ([q.1.getD 0 0],upM (nI q.1)) (q.1.getD 0 0)=0:=plE_yes (fun x hx=>by
    obtain⟨i,hi,rfl⟩:=List.mem_map.1 hx
    have:=List.mem_range.1 hi
    omega) (by omega)
   have hs:[q.1.getD 0 0]++q.1.tail=q.1:=by show q.1.getD 0 0::q.1.tail=q.1;exact head_tail hne
   unfold ixK
   dsimp only
   rw[if_neg hne,if_neg (fun e=>e hp),hs,if_neg (fun e=>e (szE_may.2 h.1)),upM_int,nat_int,its_all (n:=nI q.1) (h.cut hne)]
theorem cyM_all (es:List Int):cyM es es.length=es:=by
 unfold cyM
 apply List.ext_getElem?
 intro j
 by_cases hj:j<es.length
 · rw[List.getElem?_map,List.getElem?_range hj,List.getElem?_eq_getElem hj]
   show some (es.getD (j%es.length) 0)=_
   rw[Nat.mod_eq_of_lt hj,List.getD_eq_getElem?_getD,List.getElem?_eq_getElem hj];rfl
 · rw[List.getElem?_eq_none (by simp;omega),List.getElem?_eq_none (by omega)]
theorem rs_all {q:Ar} (h:Fits q.1 q.2):
 shM (some q)=(some ([(q.1.length:Int)],q.1),0)∧raM (some q)=(some ([(q.2.length:Int)],q.2),0)∧rsM (some ([(q.1.length:Int)],q.1)) (some ([(q.2.length:Int)],q.2))=(some q,0):=by
 refine⟨rfl,rfl,?_⟩
 have hall:q.1.all nearM=true:=by
  rw[List.all_eq_true]
  intro x hx
  obtain⟨j,hj,rfl⟩:=List.getElem_of_mem hx
  have e:q.1.getD j 0=q.1[j]:=by rw[List.getD_eq_getElem?_getD,List.getElem?_eq_getElem hj];rfl
  have h1:=h.1.nn j hj
  have h2:=h.1.le j hj
  rw[e]at h1 h2
  exact near_big h1 h2
 unfold rsM
 dsimp only
 rw[if_neg (by simp),if_neg (by rw[hall];simp),if_neg (fun e=>e (szE_may.2 h.1)),if_neg (by
  rintro⟨h1,h2⟩
  have:=h.2
  rw[h2]at this
  exact h1 this.symm),←h.2]
 show(some (q.1,cyM q.2 ((q.2.length:Int)).toNat),(0:Int))=_
 rw[Int.toNat_natCast,cyM_all]
end Go.Proofs.YtcfbjdplhgdpfaaGreatDoor
namespace Go.Proofs.YtcfbjdplhgdpfaaGreatDoor
set_option linter.unusedVariables false
set_option linter.unusedSimpArgs false
theorem dyA_told (k:Nat) (o p:Option Ar):Told (dyA k o p):=by
 rcases dyA_end k o p with⟨h1,h2⟩|⟨h1,h2⟩
 · obtain⟨q,hq⟩:=Option.isSome_iff_exists.1 h2
   exact .inl ⟨q,Prod.ext hq h1⟩
 · exact .inr ⟨(dyA k o p).2,Prod.ext h1 rfl,by omega,by omega⟩
theorem mnA_told (k:Nat) (o:Option Ar):Told (mnA k o):=by
 cases o with
 |none=>exact .no ⟨by decide,by decide⟩
 |some v=>
  obtain⟨l,xs⟩:=v
  exact told_if (fun _=>.no ⟨by decide,by decide⟩) fun _=>.yes _
theorem prs_one {v:Bool} {a:Int} {ys:List Int} (hv:v=true→ys.length≤1):prs true v [a] ys ys.length=ys.map fun y=>(a,y):=by
 apply List.ext_getElem
 · simp[prs]
 · intro i h1 h2
   have hi:i<ys.length:=by simpa[prs]using h1
   have e:(if v then 0 else i)=i:=by
    cases v with
    |false=>rfl
    |true=>have:=hv rfl;simp;omega
   rw[prs_get,e,List.getElem_map]
   simp[List.getD_eq_getElem?_getD,List.getElem?_eq_getElem hi]
theorem spL_same {k:Nat} {a:Int}:∀{ys:List Int},(∀y∈ys,dyI k a y=(some y,0))→spL k (ys.map fun y=>(a,y))=(some ys,0)
 |[],_=>rfl
 |y::r,h=>by
  rw[List.map_cons]
  unfold spL
  rw[h y (List.mem_cons_self ..)]
  dsimp only
  rw[spL_same fun z hz=>h z (List.mem_cons_of_mem _ hz)]
theorem dyA_same {k:Nat} (hk:k<11) {a:Int} {m ys:List Int} (hm:(ys.length:Int)=prD m) (h:∀y∈ys,dyI k a y=(some y,0)):dyA k (some ([],[a])) (some (m,ys))=(some (m,ys),0):=by
 have e1:meE [] m=0:=by unfold meE;rw[if_pos (.inr (.inr rfl))]
 have e2:meV [] m=m:=by
  unfold meV
  by_cases h:m=[]
  · subst h;rfl
  · rw[if_neg (by rintro(h'|h');exact h h'.symm;exact h h'),if_pos rfl]
 have e3:(prD m).toNat=ys.length:=by omega
 rw[dyA_two hk e1,e2,e3,show nx ([]:List Int)=true from rfl,prs_one (fun h=> ?_),spL_same h]
 have hm0:m=[]:=by simpa[nx]using h
 subst hm0
 have:(ys.length:Int)=1:=hm
 omega
theorem tlI_near {y:Int} (h:y.natAbs<lim):tlI y=(some y,0):=by unfold tlI;rw[if_pos h]
theorem dyA_unit {k:Nat} {a:Int} (hk:k=0∧a=0∨k=2∧a=1) {m ys:List Int} (hm:(ys.length:Int)=prD m) (hb:∀y∈ys,y.natAbs<lim):
 dyA k (some ([],[a])) (some (m,ys))=(some (m,ys),0)∧dyA k (some (m,ys)) (some ([],[a]))=(some (m,ys),0):=by
 have h:dyA k (some ([],[a])) (some (m,ys))=(some (m,ys),0):=by
  refine dyA_same (by omega) hm fun y hy=> ?_
  rcases hk with⟨rfl,rfl⟩|⟨rfl,rfl⟩
  · show tlI (0+y)=_
    rw[Int.zero_add,tlI_near (hb y hy)]
  · show tlI (1*y)=_
    rw[Int.one_mul,tlI_near (hb y hy)]
 refine⟨h,?_⟩
 rw[←dyA_turn (by omega)]
 exact h
noncomputable def oneP (l:List UInt8) (o:Option Ar):Option Ar×Int:=if kmL l<3 then mnA (kmL l) o else if l=[33]then ioM o else if l=[35]then taM o else if l=[61]then shM o else if l=[44]then raM o else if l=[124]then reM o else if l=[43]then fiM o else
 if l=[60]then upK 1 o else if l=[62]then upK (-1) o else if l=[38]then whK o else if l=[63]then unK o else(none,1)
def twoP (l:List UInt8) (o p:Option Ar):Option Ar×Int:=if kdL l<11 then dyA (kdL l) o p else if l=[35]then rsM o p else if l=[94]then tkM o p else if l=[36]then drM o p else if l=[44]then jnM o p else if l=[63]then fdK o p else if l=[64]then ixK o p else(none,1)
def unP (l:List UInt8):Option Ar:=if l=[43]then some ([],[0])else if l=[42]then some ([],[1])else none
theorem oneP_told (l:List UInt8) (o:Option Ar):Told (oneP l o):=
 told_if (fun _=>mnA_told _ o) fun _=>told_if (fun _=>ioM_told o) fun _=>told_if (fun _=>taM_told o) fun _=>told_if (fun _=>shM_told o) fun _=>told_if (fun _=>raM_told o) fun _=>told_if (fun _=>reM_told o) fun _=>told_if (fun _=>fiM_told o) fun _=>
  told_if (fun _=>upK_told _ o) fun _=>told_if (fun _=>upK_told _ o) fun _=>told_if (fun _=>whK_told o) fun _=>told_if (fun _=>unK_told o) fun _=>.no ⟨by decide,by decide⟩
theorem twoP_told (l:List UInt8) (o p:Option Ar):Told (twoP l o p):=
 told_if (fun _=>dyA_told _ o p) fun _=>told_if (fun _=>rsM_told o p) fun _=>told_if (fun _=>tkM_told o p) fun _=>told_if (fun _=>drM_told o p) fun _=>told_if (fun _=>jnM_told o p) fun _=>told_if (fun _=>fdK_told o p) fun _=>told_if (fun _=>ixK_told o p) fun _=>.no ⟨by decide,by decide⟩
theorem if_same {α:Type} {c:Prop} [Decidable c] {a b x:α} (ha:a=x) (hb:b=x):(if c then a else b)=x:=by split<;>assumption
theorem oneP_none (l:List UInt8):oneP l none=(none,1):=by
 unfold oneP
 repeat' (first|exact if_same rfl rfl|refine if_same ?_ ?_|rfl)
theorem twoP_none (l:List UInt8) {o p:Option Ar} (h:(o.isSome&&p.isSome)=false):twoP l o p=(none,1):=by
 have e:(o=none)∨(p=none):=by
  cases o with
  |none=>exact .inl rfl
  |some q=>cases p with
   |none=>exact .inr rfl
   |some r=>cases h
 unfold twoP
 refine if_same (dyA_arg h) ?_
 rcases e with rfl|rfl
 · repeat' (first|exact if_same rfl rfl|refine if_same ?_ ?_|rfl)
 · cases o<;>repeat' (first|exact if_same rfl rfl|refine if_same ?_ ?_|rfl)
theorem unP_law {l:List UInt8} {u q:Ar} (h:unP l=some u) (hm:(q.2.length:Int)=prD q.1) (hb:∀y∈q.2,y.natAbs<lim):twoP l (some u) (some q)=(some q,0)∧twoP l (some q) (some u)=(some q,0):=by
 unfold unP at h
 split at h
 · rename_i e
   obtain rfl:=Option.some.inj h
   subst e
   exact dyA_unit (k:=0) (.inl ⟨rfl,rfl⟩) hm hb
 · split at h
   · rename_i e
     obtain rfl:=Option.some.inj h
     subst e
     exact dyA_unit (k:=2) (.inr ⟨rfl,rfl⟩) hm hb
   · cases h
theorem unP_none {l:List UInt8} (h:unP l=none):l≠[43]∧l≠[42]:=by
 unfold unP at h
 split at h
 · cases h
 · split at h
   · cases h
   · rename_i h1 h2
     exact⟨h1,h2⟩
end Go.Proofs.YtcfbjdplhgdpfaaGreatDoor

import Derived.Test.YtcfbjdplhgdpfaaGreatDoorMaa
import Derived.Laws.CopyOwn
set_option maxHeartbeats 1600000
set_option maxRecDepth 10000
namespace Go.Proofs.YtcfbjdplhgdpfaaGreatDoor
set_option linter.unusedVariables false
set_option linter.unusedSimpArgs false
open Go.RowKit
theorem upd_upd (F:Nat→Nat) (i x y:Nat):upd (upd F i x) i y=upd F i y:=by
 funext j;unfold upd;split<;>rfl
structure LowerInv (F:Nat→Nat) (m:List Nat) (q o k c:Nat) (F':Nat→Nat):Prop where
 le:c≤2000000002
 out:∀j,j<o∨o+k≤j→F' j=F j
 ok:∀j,o≤j→j<o+k→F' j<1000000000
 eq:vf F' o k+q*val (m.take k)=vf F o k+1000000000^k*c
theorem LowerInv.start (F:Nat→Nat) (m:List Nat) (q o:Nat):LowerInv F m q o 0 0 F:=⟨by omega,fun _ _=>rfl,fun _ h1 h2=>by omega,by simp[vf,val]⟩
theorem mul_le_bd {q x:Nat} (hq:q≤2000000000) (hx:x<1000000000):q*x≤1999999998000000000:=
 Nat.le_trans (Nat.mul_le_mul hq (show x≤999999999 by omega)) (by decide)
theorem LowerInv.step {F:Nat→Nat} {m:List Nat} {q o k c:Nat} {F':Nat→Nat} (h:LowerInv F m q o k c F') (hF:F (o+k)<1000000000) (hm:Ok m) (hq:q≤2000000000)
 {y c':Nat} (hy:y<1000000000) (hy2:y+(c+q*m.getD k 0)=F (o+k)+1000000000*c') (hc':c'≤2000000002):LowerInv F m q o (k+1) c' (upd F' (o+k) y):=by
 refine⟨hc',fun j hj=> ?_,fun j h3 h4=> ?_,?_⟩
 · unfold upd;rw[if_neg (by omega)];exact h.out j (by omega)
 · unfold upd;split
   · exact hy
   · exact h.ok j h3 (by omega)
 · simp only[vf]
   rw[vf_upd_out (.inr (by omega)),val_take_succ]
   have h3:=h.eq
   have h4:upd F' (o+k) y (o+k)=y:=by unfold upd;rw[if_pos rfl]
   rw[h4,Nat.pow_succ]
   have h6:=congrArg (fun z=>1000000000^k*z) hy2
   simp only[Nat.mul_add]at h6
   rw[Nat.mul_add]
   have h7:q*(1000000000^k*m.getD k 0)=1000000000^k*(q*m.getD k 0):=by rw[Nat.mul_left_comm]
   have h8:1000000000^k*1000000000*c'=1000000000^k*(1000000000*c'):=by rw[Nat.mul_assoc]
   omega
theorem LowerInv.step_ge {F:Nat→Nat} {m:List Nat} {q o k c:Nat} {F':Nat→Nat} (h:LowerInv F m q o k c F') (hF:F (o+k)<1000000000) (hm:Ok m) (hq:q≤2000000000)
 {x:Nat} (hx:x=c+q*m.getD k 0) (hge:x%1000000000≤F (o+k)):LowerInv F m q o (k+1) (x/1000000000) (upd F' (o+k) (F (o+k)-x%1000000000)):=by
 have h1:=mul_le_bd hq (ok_getD hm k)
 have h2:=h.le
 exact h.step hF hm hq (by omega) (by omega) (by omega)
theorem LowerInv.step_lt {F:Nat→Nat} {m:List Nat} {q o k c:Nat} {F':Nat→Nat} (h:LowerInv F m q o k c F') (hF:F (o+k)<1000000000) (hm:Ok m) (hq:q≤2000000000)
 {x:Nat} (hx:x=c+q*m.getD k 0) (hge:F (o+k)<x%1000000000):LowerInv F m q o (k+1) (x/1000000000+1) (upd F' (o+k) (F (o+k)+1000000000-x%1000000000)):=by
 have h1:=mul_le_bd hq (ok_getD hm k)
 have h2:=h.le
 exact h.step hF hm hq (by omega) (by omega) (by omega)
theorem lower_any (g o n ca N:Nat) (F:Nat→Nat) (B:Option Addr) (m:List Nat) (cb:Nat) (q:Nat) (w:World) (hR:Rw w g N F) (hF:∀j,o≤j→j<o+n→F j<1000000000) (hn:o+n≤N) (hN:N≤maxLen)
 (hB:Sz w B m) (hO:Off B g) (om:Ok m) (hm:m.length≤maxLen) (hq:q≤2000000000):
 Calls Tryz.prog 267 #[.slice (some ⟨g,o,none⟩) n ca,.slice B m.length cb,.int .u64 q] w fun e w'=>∃c F',e=.returned (.bool (decide (0<c)))∧LowerInv F m q o n c F'∧Rw w' g N F'∧Only g w w':=by
 unfold maxLen at hN hm
 go_enter Tryz.func267,Tryz.ntmps267
 go_wp2_with fail
 go_loopw [7,12] (fun c i wr=>∃(k cN:Nat) (F':Nat→Nat),k≤n∧i=.int .i64 k∧c=.int .u64 cN∧LowerInv F m q o k cN F'∧Rw wr g N F'∧Only g w wr) (fun _ i _=>n-(intOf i).toNat)
 case atStart=>exact⟨0,0,F,Nat.zero_le _,rfl,rfl,LowerInv.start _ _ _ _,hR,Only.refl _ _⟩
 case round=>
  obtain⟨k,cN,F',hk,rfl,rfl,hI,hR',hW⟩:=hrel
  by_cases hlt:k<n
  · have c1:=hI.le
    have hFk:=hF (o+k) (by omega) (by omega)
    have e0:F' (o+k)=F (o+k):=hI.out _ (by omega)
    have hcell:=hR'.cell (i:=o+k) (by omega)
    have hfz:=hR'.frozen (o+k)
    rw[e0]at hcell
    by_cases hmk:k<m.length
    · obtain⟨b,o',rfl,hlt',hcell'⟩:=(hB.only hO hW).at_ (by rintro rfl;simp at hmk)
      have hcm:=hcell' k hmk
      have hmk2:=ok_get om hmk
      have em:m.getD k 0=m[k]:=by rw[List.getD_eq_getElem?_getD,List.getElem?_eq_getElem hmk];rfl
      have hbd:=mul_le_bd hq hmk2
      obtain⟨p,hp⟩:∃p,p=q*m[k]:=⟨_,rfl⟩
      have hp2:(q:Int)*(m[k]:Int)=(p:Int):=by rw[hp];push_cast;rfl
      rw[←hp]at hbd
      by_cases hge:(cN+p)%1000000000≤F (o+k)
      · have hst:=hI.step_ge hFk om hq (x:=cN+p) (by rw[em,hp]) hge
        have HP:=Lib.hid hp
        clear e0 hF hcell' em hp
        go_wp2_with fail
        go_roundw
        case rel=>exact⟨k+1,_,_,by omega,by go_num,by rfl,hst,hR'.set _ _ (by omega),hW.setCell _ _⟩
        case measure=>simp[intOf];omega
      · have hst:=hI.step_lt hFk om hq (x:=cN+p) (by rw[em,hp]) (by omega)
        have HP:=Lib.hid hp
        clear e0 hF hcell' em hp
        have h32:F (o+k)+1000000000≤4294967295:=by omega
        go_wp2_with fail
        go_roundw
        case rel=>exact⟨k+1,_,_,by omega,by go_num,by rfl,hst,by rw[←upd_upd F' (o+k) (F (o+k)+1000000000)];exact(hR'.set _ _ (by omega)).set _ _ (by omega),(hW.setCell _ _).setCell _ _⟩
        case measure=>simp[intOf];omega
    · have em:m.getD k 0=0:=by rw[List.getD_eq_getElem?_getD,List.getElem?_eq_none (by omega)];rfl
      by_cases hge:cN%1000000000≤F (o+k)
      · have hst:=hI.step_ge hFk om hq (x:=cN) (by rw[em,Nat.mul_zero,Nat.add_zero]) hge
        clear e0 hF em
        go_wp2_with fail
        go_roundw
        case rel=>exact⟨k+1,_,_,by omega,by go_num,by rfl,hst,hR'.set _ _ (by omega),hW.setCell _ _⟩
        case measure=>simp[intOf];omega
      · have hst:=hI.step_lt hFk om hq (x:=cN) (by rw[em,Nat.mul_zero,Nat.add_zero]) (by omega)
        clear e0 hF em
        have h32:F (o+k)+1000000000≤4294967295:=by omega
        go_wp2_with fail
        go_roundw
        case rel=>exact⟨k+1,_,_,by omega,by go_num,by rfl,hst,by rw[←upd_upd F' (o+k) (F (o+k)+1000000000)];exact(hR'.set _ _ (by omega)).set _ _ (by omega),(hW.setCell _ _).setCell _ _⟩
        case measure=>simp[intOf];omega
  · have hkn:k=n:=by omega
    subst hkn
    go_wp2_with fail
    go_ret
    exact⟨cN,F',by simp,hI,hR',hW⟩
end Go.Proofs.YtcfbjdplhgdpfaaGreatDoor
namespace Go.Proofs.YtcfbjdplhgdpfaaGreatDoor
set_option linter.unusedVariables false
set_option linter.unusedSimpArgs false
open Go.RowKit
theorem info32:(Tryz.prog.info? 165).map (fun i=>(i.zero,i.size,i.bytes))=some (some (.int .u32 0),1,4):=by kernel_rfl
theorem info32s:(Tryz.prog.info? 165).map (·.size)=some 1:=by kernel_rfl
theorem run_mk (n:Nat) (hn:n≤1000000) (w:World):
 (Instr.makeSlice 198 (.int .i64 (n:Int)) (.int .i64 (n:Int))).run Tryz.prog w=.ok (.slice (some ⟨w.heap.size,0,none⟩) n n) (w.alloc (.cells (madeCells #[.int .u32 0] n) 165)):=
 run_make_row' 198 165 _ 4 Tryz.underlying198 info32 rfl _ _ n (by omega) (by omega) w
theorem run_mkz (n:Nat) (z:Int) (hz:z=(n:Int)) (hn:n≤1000000) (w:World):
 (Instr.makeSlice 198 (.int .i64 z) (.int .i64 z)).run Tryz.prog w=.ok (.slice (some ⟨w.heap.size,0,none⟩) n n) (w.alloc (.cells (madeCells #[.int .u32 0] n) 165)):=by
 subst hz;exact run_mk n hn w
theorem Rw.made (w:World) (n:Nat):Rw (w.alloc (.cells (madeCells #[.int .u32 0] n) 165)) w.heap.size n (fun _=>0):=World.rowIs_made w _ n _
def over (l:List Nat) (F:Nat→Nat):Nat→Nat:=fun j=>if j<l.length then l.getD j 0 else F j
theorem wpList_copy_sz {w:World} {ops:Array Oper} {rest:List Oper} {o:Oper} {a:Act} {Q:Exit→Act→World→Prop} (hgd:o.guard=none) (d s:Operand)
 (ho:o.op=.call {callee:=.builtin .copy,args:=#[d,s],argTypes:=#[198,198]}) (g n ca:Nat) (F:Nat→Nat) (A:Option Addr) (l:List Nat) (c:Nat)
 (hd:a.eval d=.slice (some ⟨g,0,none⟩) n ca) (hs:a.eval s=.slice A l.length c) (hR:Rw w g n F) (hS:Sz w A l) (hle:l.length≤n)
 (h:∀w',Rw w' g n (over l F)→Only g w w'→wpList Tryz.prog ops Q rest (a.put o.dst (goInt l.length)) w'):wpList Tryz.prog ops Q (o::rest) a w:=by
 by_cases h0:l=[]
 · subst h0
   refine wpList_copy_nothing hgd d s _ _ ho 165 Tryz.underlying198 info32s _ _ _ _ _ _ hd hs (by simp) ?_
   exact h w (hR.congr fun j _=>by simp[over]) (Only.refl _ _)
 · obtain⟨b,o',rfl,hlt,hcell⟩:=hS.at_ h0
   obtain⟨cur,hg,hsz,hc⟩:=hR
   have hlen:(l.map fun p=>Value.int .u32 (p:Nat)).length=l.length:=by simp
   refine wpList_copy_own hgd d s _ _ ho 165 Tryz.underlying198 info32s g 0 n ca ⟨b,o',none⟩ l.length c hd hs cur 165 hg (l.map fun p=>Value.int .u32 (p:Nat)) (by rw[hlen];exact(Nat.min_eq_left hle).symm) ?_ (by rw[hlen];omega) (by simp[Value.oneCell']) ?_
   · intro j v hj
     simp only[List.getElem?_map,Option.map_eq_some_iff]at hj
     obtain⟨p,hp,rfl⟩:=hj
     obtain⟨hjl,rfl⟩:=List.getElem?_eq_some_iff.1 hp
     rw[show(⟨b,o',none⟩:Addr).add j=⟨b,o'+j,none⟩by unfold Addr.add;split<;>simp_all];exact hcell j hjl
   · rw[hlen]
     refine h _ ⟨_,setRow_heap w g _ _ _ _ hg,by simp;omega,fun i hi=> ?_⟩ ⟨rfl,rfl,rfl,by simp[World.setRow],fun k _ hk=>setRow_other w g k _ (by intro e;exact hk (by rw[e]))⟩
     show _=some (Value.int .u32 ((if i<l.length then l.getD i 0 else F i:Nat):Int))
     by_cases hi2:i<l.length
     · rw[if_pos hi2]
       simp[hi2,List.getElem?_append_left]
     · rw[if_neg hi2]
       simp only[List.take_zero,List.nil_append,List.getElem?_toArray,Nat.zero_add]
       rw[List.getElem?_append_right (by simp;omega),List.getElem?_drop]
       simp only[List.length_map]
       rw[show l.length+(i-l.length)=i by omega]
       have:=hc i hi
       simpa using this
theorem vf_over (l:List Nat) (F:Nat→Nat):vf (over l F) 0 l.length=val l:=by
 rw[←val_lst]
 congr 1
 refine List.ext_getElem (by simp[lst]) fun i h1 h2=> ?_
 rw[lst_get,Nat.zero_add]
 unfold over
 rw[if_pos h2,List.getD_eq_getElem?_getD,List.getElem?_eq_getElem h2];rfl
theorem vf_over_zero (l:List Nat) {n:Nat} (h:l.length≤n):vf (over l (fun _=>0)) 0 n=val l:=by
 obtain⟨k,rfl⟩:∃k,n=l.length+k:=⟨n-l.length,by omega⟩
 rw[vf_split,vf_over]
 have:vf (over l (fun _=>0)) (0+l.length) k=0:=by
  rw[vf_congr (G:=fun _=>0) (fun j h1 h2=>by unfold over;rw[if_neg (by omega)])]
  have:∀o k,vf (fun _=>0) o k=0:=by
   intro o k
   induction k with
   |zero=>rfl
   |succ k ih=>simp[vf,ih]
  exact this _ _
 rw[this];simp
theorem over_ok {l:List Nat} {F:Nat→Nat} (ol:Ok l) (h:∀j,l.length≤j→F j<1000000000) (j:Nat):over l F j<1000000000:=by
 unfold over;split
 · exact ok_getD ol j
 · exact h j (by omega)
def SzN (w:World) (v:Value) (x:Nat):Prop:=∃A l c,v=.slice A l.length c∧Sz w A l∧Ok l∧Norm l∧val l=x
theorem SzN.of_row {w:World} {g N:Nat} {F:Nat→Nat} (h:Rw w g N F) (o n c:Nat) (hn:o+n≤N) (hF:∀j,o≤j→j<o+n→F j<1000000000):
 SzN w (.slice (some ⟨g,o,none⟩) (trim (lst F o n)).length c) (vf F o n):=by
 refine⟨_,trim (lst F o n),c,rfl,.inr ⟨g,o,rfl,h.lt,fun i hi=> ?_⟩,ok_trim (lst_ok hF),norm_trim _,by rw[val_trim,val_lst]⟩
 have h1:=trim_le (lst F o n)
 rw[lst_length]at h1
 rw[h.cell (i:=o+i) (by omega)]
 have h2:(trim (lst F o n))[i]=F (o+i):=by
  have h3:(trim (lst F o n))[i]?=((lst F o n).take (trim (lst F o n)).length)[i]?:=by rw[←trim_take]
  rw[List.getElem?_take_of_lt hi,List.getElem?_eq_getElem hi,List.getElem?_eq_getElem (by rw[lst_length];omega),lst_get]at h3
  exact Option.some.inj h3
 rw[h2]
theorem trimmed_row (g o n c N:Nat) (F:Nat→Nat) (w:World) (hR:Rw w g N F) (hn:o+n≤N) (hF:∀j,o≤j→j<o+n→F j<1000000000) (hc:n≤c) (hm:c≤maxLen):
 Calls Tryz.prog 261 #[.slice (some ⟨g,o,none⟩) n c] w fun e w'=>e=.returned (.slice (some ⟨g,o,none⟩) (trim (lst F o n)).length c)∧w=w':=by
 have h:=trimmed_any (some ⟨g,o,none⟩) (lst F o n) c w (hR.sz o n hn) (by rw[lst_length];exact hc) hm
 rwa [lst_length]at h
theorem SzN.conv {w:World} {v:Value} {x y:Nat} (h:SzN w v x) (e:x=y):SzN w v y:=e▸h
theorem raise_end {F F':Nat→Nat} {m:List Nat} {o n c x:Nat} (h:RaiseInv F m o n c F') (hm:m.length≤n) (hx:vf F o n+val m=x) (hlt:x<1000000000^n):vf F' o n=x∧c=0:=by
 have e:=h.eq
 rw[List.take_of_length_le hm,hx]at e
 have:c=0:=by
  rcases Nat.eq_zero_or_pos c with h0|h0
  · exact h0
  · have:1000000000^n*1≤1000000000^n*c:=Nat.mul_le_mul_left _ h0
    omega
 subst this
 exact⟨by omega,rfl⟩
theorem sum_lt {l m:List Nat} (ol:Ok l) (om:Ok m) (h:m.length≤l.length):val l+val m<1000000000^(l.length+1):=by
 have h1:=val_lt ol
 have h2:=val_lt om
 have h3:1000000000^m.length≤1000000000^l.length:=Nat.pow_le_pow_right (by decide) h
 rw[Nat.pow_succ];omega
theorem and_le (A B:Option Addr) (l m:List Nat) (c d:Nat) (w:World) (hA:Sz w A l) (hB:Sz w B m) (ol:Ok l) (om:Ok m) (hl:l.length≤1000) (hml:m.length≤l.length):
 Calls Tryz.prog 247 #[.slice A l.length c,.slice B m.length d] w fun e w'=>∃v,e=.returned v∧SzN w' v (val l+val m)∧Below w.heap.size w w':=by
 have hmk:=run_mkz (l.length+1) ((l.length:Int)+1) (by omega) (by omega)
 have hg:¬l.length<m.length:=by omega
 go_enter Tryz.func247,Tryz.ntmps247
 go_wp2_with ((with_reducible refine wpList_copy_sz rfl (.tmp 17) (.tmp 18) rfl w.heap.size (l.length+1) (l.length+1) (fun _=>0) A l c rfl rfl (Rw.made w _) (hA.below ((Below.refl _ _).alloc (Nat.le_refl _) _)) (by omega) ?_);intro w1 hR1 hO1)
 go_wp2_with fail
 have hF:∀j,0≤j→j<0+(l.length+1)→over l (fun _=>0) j<1000000000:=fun j _ _=>over_ok ol (fun _ _=>by decide) j
 have hB1:Below w.heap.size w w1:=(((Below.refl _ _).alloc (Nat.le_refl _) _).trans (hO1.to_below (Nat.le_refl _) (by simp)))
 have hBx:=hB.below hB1
 refine(raise_any w.heap.size 0 (l.length+1) (l.length+1) (l.length+1) _ B m d _ hR1 hF (by omega) (by unfold maxLen;omega) hBx (hB.off (Nat.le_refl _)) om (by unfold maxLen;omega)).mono ?_
 rintro e w2 ⟨c2,F2,rfl,hI,hR2,hO2⟩
 have hend:=raise_end hI (by omega) (by rw[vf_over_zero l (by omega)]) (sum_lt ol om hml)
 have HE:=Lib.hid hend
 have hB2:Below w.heap.size w w2:=hB1.trans (hO2.to_below (Nat.le_refl _) hB1.size)
 clear hend hB1 hO2 hO1 hR1 hBx hB hA
 go_wp2_with fail
 refine(trimmed_row w.heap.size 0 (l.length+1) (l.length+1) (l.length+1) F2 _ hR2 (by omega) hI.ok (by omega) (by unfold maxLen;omega)).mono ?_
 rintro e w3 ⟨rfl,rfl⟩
 go_wp2_with fail
 go_ret
 exact⟨_,rfl,(SzN.of_row hR2 0 _ _ (by omega) hI.ok).conv HE.out.1,hB2⟩
theorem and_gt (A B:Option Addr) (l m:List Nat) (c d:Nat) (w:World) (hA:Sz w A l) (hB:Sz w B m) (ol:Ok l) (om:Ok m) (hl:m.length≤1000) (hml:l.length<m.length):
 Calls Tryz.prog 247 #[.slice A l.length c,.slice B m.length d] w fun e w'=>∃v,e=.returned v∧SzN w' v (val l+val m)∧Below w.heap.size w w':=by
 have hmk:=run_mkz (m.length+1) ((m.length:Int)+1) (by omega) (by omega)
 go_enter Tryz.func247,Tryz.ntmps247
 go_wp2_with ((with_reducible refine wpList_copy_sz rfl (.tmp 17) (.tmp 18) rfl w.heap.size (m.length+1) (m.length+1) (fun _=>0) B m d rfl rfl (Rw.made w _) (hB.below ((Below.refl _ _).alloc (Nat.le_refl _) _)) (by omega) ?_);intro w1 hR1 hO1)
 go_wp2_with fail
 have hF:∀j,0≤j→j<0+(m.length+1)→over m (fun _=>0) j<1000000000:=fun j _ _=>over_ok om (fun _ _=>by decide) j
 have hB1:Below w.heap.size w w1:=(((Below.refl _ _).alloc (Nat.le_refl _) _).trans (hO1.to_below (Nat.le_refl _) (by simp)))
 have hBx:=hA.below hB1
 refine(raise_any w.heap.size 0 (m.length+1) (m.length+1) (m.length+1) _ A l c _ hR1 hF (by omega) (by unfold maxLen;omega) hBx (hA.off (Nat.le_refl _)) ol (by unfold maxLen;omega)).mono ?_
 rintro e w2 ⟨c2,F2,rfl,hI,hR2,hO2⟩
 have hend:=raise_end hI (by omega) (by rw[vf_over_zero m (by omega)]) (sum_lt om ol (by omega))
 have HE:=Lib.hid hend
 have hB2:Below w.heap.size w w2:=hB1.trans (hO2.to_below (Nat.le_refl _) hB1.size)
 clear hend hB1 hO2 hO1 hR1 hBx hB hA
 go_wp2_with fail
 refine(trimmed_row w.heap.size 0 (m.length+1) (m.length+1) (m.length+1) F2 _ hR2 (by omega) hI.ok (by omega) (by unfold maxLen;omega)).mono ?_
 rintro e w3 ⟨rfl,rfl⟩
 go_wp2_with fail
 go_ret
 exact⟨_,rfl,(SzN.of_row hR2 0 _ _ (by omega) hI.ok).conv (HE.out.1.trans (Nat.add_comm _ _)),hB2⟩
theorem and_any (A B:Option Addr) (l m:List Nat) (c d:Nat) (w:World) (hA:Sz w A l) (hB:Sz w B m) (ol:Ok l) (om:Ok m) (hl:l.length≤1000) (hm:m.length≤1000):
 Calls Tryz.prog 247 #[.slice A l.length c,.slice B m.length d] w fun e w'=>∃v,e=.returned v∧SzN w' v (val l+val m)∧Below w.heap.size w w':=by
 by_cases h:l.length<m.length
 · exact and_gt A B l m c d w hA hB ol om hm h
 · exact and_le A B l m c d w hA hB ol om hl (by omega)
end Go.Proofs.YtcfbjdplhgdpfaaGreatDoor
namespace Go.Proofs.YtcfbjdplhgdpfaaGreatDoor
set_option linter.unusedVariables false
set_option linter.unusedSimpArgs false
open Go.RowKit
theorem lower_end {F F':Nat→Nat} {m:List Nat} {q o n c x:Nat} (h:LowerInv F m q o n c F') (hm:m.length≤n) (hx:vf F o n=x) (hle:q*val m≤x):vf F' o n=x-q*val m∧c=0:=by
 have e:=h.eq
 rw[List.take_of_length_le hm,hx]at e
 have hlt:=vf_lt h.ok
 have:c=0:=by
  rcases Nat.eq_zero_or_pos c with h0|h0
  · exact h0
  · have:1000000000^n*1≤1000000000^n*c:=Nat.mul_le_mul_left _ h0
    omega
 subst this
 exact⟨by omega,rfl⟩
theorem less_any (A B:Option Addr) (l m:List Nat) (c d:Nat) (w:World) (hA:Sz w A l) (hB:Sz w B m) (ol:Ok l) (om:Ok m) (hl:l.length≤1000) (hml:m.length≤l.length) (hv:val m≤val l):
 Calls Tryz.prog 249 #[.slice A l.length c,.slice B m.length d] w fun e w'=>∃v,e=.returned v∧SzN w' v (val l-val m)∧Below w.heap.size w w':=by
 have hmk:=run_mkz l.length (l.length:Int) (by omega) (by omega)
 have HV:=Lib.hid hv
 clear hv
 go_enter Tryz.func249,Tryz.ntmps249
 go_wp2_with ((with_reducible refine wpList_copy_sz rfl (.tmp 9) (.tmp 10) rfl w.heap.size l.length l.length (fun _=>0) A l c rfl rfl (Rw.made w _) (hA.below ((Below.refl _ _).alloc (Nat.le_refl _) _)) (by omega) ?_);intro w1 hR1 hO1)
 go_wp2_with fail
 have hF:∀j,0≤j→j<0+l.length→over l (fun _=>0) j<1000000000:=fun j _ _=>over_ok ol (fun _ _=>by decide) j
 have hB1:Below w.heap.size w w1:=(((Below.refl _ _).alloc (Nat.le_refl _) _).trans (hO1.to_below (Nat.le_refl _) (by simp)))
 have hBx:=hB.below hB1
 refine(lower_any w.heap.size 0 l.length l.length l.length _ B m d 1 _ hR1 hF (by omega) (by unfold maxLen;omega) hBx (hB.off (Nat.le_refl _)) om (by unfold maxLen;omega) (by omega)).mono ?_
 rintro e w2 ⟨c2,F2,rfl,hI,hR2,hO2⟩
 have hend:=lower_end hI (by omega) (vf_over _ _) (by rw[Nat.one_mul];exact HV.out)
 have HE:=Lib.hid hend
 have hB2:Below w.heap.size w w2:=hB1.trans (hO2.to_below (Nat.le_refl _) hB1.size)
 clear hend hB1 hO2 hO1 hR1 hBx hB hA
 go_wp2_with fail
 refine(trimmed_row w.heap.size 0 l.length l.length l.length F2 _ hR2 (by omega) hI.ok (by omega) (by unfold maxLen;omega)).mono ?_
 rintro e w3 ⟨rfl,rfl⟩
 go_wp2_with fail
 go_ret
 exact⟨_,rfl,(SzN.of_row hR2 0 _ _ (by omega) hI.ok).conv (by rw[HE.out.1,Nat.one_mul]),hB2⟩
structure InInv (F:Nat→Nat) (m:List Nat) (p o k c:Nat) (F':Nat→Nat):Prop where
 le:c≤999999999
 out:∀j,j<o∨o+k≤j→F' j=F j
 ok:∀j,o≤j→j<o+k→F' j<1000000000
 eq:vf F' o k+1000000000^k*c=vf F o k+p*val (m.take k)
theorem InInv.start (F:Nat→Nat) (m:List Nat) (p o:Nat):InInv F m p o 0 0 F:=⟨by omega,fun _ _=>rfl,fun _ h1 h2=>by omega,by simp[vf,val]⟩
theorem mul_le_sq {p q:Nat} (hp:p<1000000000) (hq:q<1000000000):p*q≤999999998000000001:=
 Nat.le_trans (Nat.mul_le_mul (show p≤999999999 by omega) (show q≤999999999 by omega)) (by decide)
theorem InInv.step {F:Nat→Nat} {m:List Nat} {p o k c:Nat} {F':Nat→Nat} (h:InInv F m p o k c F') (hF:F (o+k)<1000000000) (hp:p<1000000000) (hm:Ok m) (hk:k<m.length)
 {x:Nat} (hx:x=c+(F (o+k)+p*m[k])):InInv F m p o (k+1) (x/1000000000) (upd F' (o+k) (x%1000000000)):=by
 have h1:=mul_le_sq hp (ok_get hm hk)
 have h2:=h.le
 refine⟨by omega,fun j hj=> ?_,fun j h3 h4=> ?_,?_⟩
 · unfold upd;rw[if_neg (by omega)];exact h.out j (by omega)
 · unfold upd;split
   · exact Nat.mod_lt _ (by decide)
   · exact h.ok j h3 (by omega)
 · simp only[vf]
   rw[vf_upd_out (.inr (by omega)),val_take_succ]
   have em:m.getD k 0=m[k]:=by rw[List.getD_eq_getElem?_getD,List.getElem?_eq_getElem hk];rfl
   have h3:=h.eq
   have h4:upd F' (o+k) (x%1000000000) (o+k)=x%1000000000:=by unfold upd;rw[if_pos rfl]
   rw[h4,em,Nat.pow_succ,Nat.mul_add]
   have h6:1000000000^k*(x%1000000000)+1000000000^k*1000000000*(x/1000000000)=1000000000^k*x:=by
    rw[Nat.mul_assoc,←Nat.mul_add];congr 1;omega
   have h7:1000000000^k*x=1000000000^k*c+(1000000000^k*F (o+k)+p*(1000000000^k*m[k])):=by
    rw[hx,Nat.mul_add,Nat.mul_add,Nat.mul_left_comm p]
   omega
structure OutInv (l m:List Nat) (i:Nat) (F:Nat→Nat):Prop where
 ok:∀j,F j<1000000000
 zero:∀j,i+m.length≤j→F j=0
 eq:vf F 0 (i+m.length)=val (l.take i)*val m
theorem vf_zero (o k:Nat):vf (fun _=>0) o k=0:=by
 induction k with
 |zero=>rfl
 |succ k ih=>simp[vf,ih]
theorem OutInv.start (l m:List Nat):OutInv l m 0 (fun _=>0):=⟨fun _=>by decide,fun _ _=>rfl,by rw[vf_zero];simp[val]⟩
theorem OutInv.step {l m:List Nat} {i:Nat} {F F':Nat→Nat} {c:Nat} (h:OutInv l m i F) (hi:i<l.length) (k:InInv F m l[i] i m.length c F'):OutInv l m (i+1) (upd F' (i+m.length) c):=by
 have hle:=k.le
 refine⟨fun j=> ?_,fun j hj=> ?_,?_⟩
 · unfold upd;split
   · omega
   · by_cases hj:j<i∨i+m.length≤j
     · rw[k.out j hj];exact h.ok j
     · exact k.ok j (by omega) (by omega)
 · unfold upd;rw[if_neg (by omega),k.out j (by omega)];exact h.zero j (by omega)
 · have e:=k.eq
   rw[List.take_of_length_le (Nat.le_refl _)]at e
   have eo:=h.eq
   rw[vf_split]at eo
   rw[show i+1+m.length=i+(m.length+1)by omega,vf_split,vf_upd_out (.inr (by omega)),vf_congr (F:=F') (G:=F) (fun j h1 h2=>k.out j (by omega)),Nat.zero_add]
   simp only[vf]
   rw[vf_upd_out (.inr (by omega)),show upd F' (i+m.length) c (i+m.length)=c by unfold upd;rw[if_pos rfl],e,val_take_succ]
   have em:l.getD i 0=l[i]:=by rw[List.getD_eq_getElem?_getD,List.getElem?_eq_getElem hi];rfl
   rw[em,Nat.add_mul,Nat.mul_add,←eo,Nat.zero_add,Nat.mul_assoc];omega
end Go.Proofs.YtcfbjdplhgdpfaaGreatDoor
namespace Go.Proofs.YtcfbjdplhgdpfaaGreatDoor
set_option linter.unusedVariables false
set_option linter.unusedSimpArgs false
open Go.RowKit
theorem multiplied_any (A B:Option Addr) (l m:List Nat) (c d:Nat) (w:World) (hA:Sz w A l) (hB:Sz w B m) (ol:Ok l) (om:Ok m) (hl:l.length≤1000) (hm:m.length≤1000):
 Calls Tryz.prog 250 #[.slice A l.length c,.slice B m.length d] w fun e w'=>∃v,e=.returned v∧SzN w' v (val l*val m)∧Below w.heap.size w w':=by
 have hmk:=run_mkz (l.length+m.length) ((l.length:Int)+(m.length:Int)) (by omega) (by omega)
 have hB0:∀X,Below w.heap.size w (w.alloc X):=fun X=>(Below.refl _ _).alloc (Nat.le_refl _) _
 have hR0:=Rw.made w (l.length+m.length)
 go_enter Tryz.func250,Tryz.ntmps250
 go_wp2_with fail
 have hO0:=Only.refl w.heap.size (w.alloc (.cells (madeCells #[.int .u32 0] (l.length+m.length)) 165))
 have hB1:=hB0 (.cells (madeCells #[.int .u32 0] (l.length+m.length)) 165)
 clear hmk hB0
 generalize w.alloc (.cells (madeCells #[.int .u32 0] (l.length+m.length)) 165)=w1 at hR0 hO0 hB1 ⊢
 have hA1:=hA.below hB1
 have hB2:=hB.below hB1
 have hAo:=hA.off (Nat.le_refl _)
 have hBo:=hB.off (Nat.le_refl _)
 obtain⟨g,hg⟩:∃g,g=w.heap.size:=⟨_,rfl⟩
 rw[←hg]at hR0 hO0 hB1 hAo hBo ⊢
 have HG:=Lib.hid hg
 clear hg hA hB
 go_loopw [19] (fun i wr=>∃(k:Nat) (F:Nat→Nat),k≤l.length∧i=.int .i64 k∧OutInv l m k F∧Rw wr g (l.length+m.length) F∧Only g w1 wr) (fun i _=>l.length-(intOf i).toNat)
 case atStart=>exact⟨0,_,Nat.zero_le _,rfl,OutInv.start l m,hR0,hO0⟩
 case round=>
  obtain⟨k,F,hk,rfl,hI,hR,hW⟩:=hrel
  by_cases hlt:k<l.length
  · obtain⟨b,o,rfl,hlt',hcell'⟩:=(hA1.only hAo hW).at_ (by rintro rfl;simp at hlt)
    have hcl:=hcell' k hlt
    have hpl:=ok_get ol hlt
    obtain⟨p,hp⟩:∃p,p=l[k]:=⟨_,rfl⟩
    rw[←hp]at hcl hpl
    have HP:=Lib.hid hp
    clear hp hcell' hA1 hR0 hO0
    go_wp2_with fail
    obtain⟨wo,rfl⟩:∃wo:World,wo=wr:=⟨_,rfl⟩
    go_loopw [8,26] (fun cv j wr=>∃(q c:Nat) (F':Nat→Nat),q≤m.length∧j=.int .i64 q∧cv=.int .u64 c∧InInv F m p k q c F'∧Rw wr g (l.length+m.length) F'∧Only g w1 wr) (fun _ j _=>m.length-(intOf j).toNat)
    case atStart=>exact⟨0,0,F,Nat.zero_le _,rfl,rfl,InInv.start F m p k,hR,hW⟩
    case round=>
     obtain⟨q,c,F',hq,rfl,rfl,hJ,hR',hW'⟩:=hrel
     have c1:=hJ.le
     by_cases hqm:q<m.length
     · obtain⟨b',o',rfl,hlt2,hcell2⟩:=(hB2.only hBo hW').at_ (by rintro rfl;simp at hqm)
       have hcm:=hcell2 q hqm
       have hFk:=hI.ok (k+q)
       have e0:F' (k+q)=F (k+q):=hJ.out _ (by omega)
       have hcell:=hR'.cell (i:=k+q) (by omega)
       have hfz:=hR'.frozen (k+q)
       rw[e0]at hcell
       have hbd:=mul_le_sq hpl (ok_get om hqm)
       have hst:=hJ.step (x:=c+(F (k+q)+p*m[q])) hFk hpl om hqm rfl
       have hmq:=ok_get om hqm
       obtain⟨r,hr⟩:∃r,r=p*m[q]:=⟨_,rfl⟩
       have hr2:(p:Int)*(m[q]:Int)=(r:Int):=by rw[hr];push_cast;rfl
       rw[←hr]at hbd hst
       clear e0 hcell2 hr hR hW hI
       go_wp2_with fail
       go_roundw
       case rel=>exact⟨q+1,_,_,by omega,by go_num,by rfl,hst,hR'.set _ _ (by rfl),hW'.setCell _ _⟩
       case measure=>simp[intOf];omega
     · have hqe:q=m.length:=by omega
       subst hqe
       have hst:=hI.step hlt (c:=c) (F':=F') (HP.out▸hJ)
       have hcell:=hR'.cell (i:=k+m.length) (by omega)
       have hfz:=hR'.frozen (k+m.length)
       clear hR hW hI
       go_wp2_with fail
       go_roundw
       case rel=>exact⟨k+1,_,by omega,by go_num,hst,hR'.set _ _ (by rfl),hW'.setCell _ _⟩
       case measure=>simp[intOf];omega
  · have hke:k=l.length:=by omega
    subst hke
    go_wp2_with fail
    refine(trimmed_row g 0 (l.length+m.length) (l.length+m.length) (l.length+m.length) F _ hR (by omega) (fun j _ _=>hI.ok j) (by omega) (by unfold maxLen;omega)).mono ?_
    rintro e w3 ⟨rfl,rfl⟩
    go_wp2_with fail
    go_ret
    have hv:=hI.eq
    rw[List.take_of_length_le (Nat.le_refl _)]at hv
    exact⟨_,rfl,(SzN.of_row hR 0 _ _ (by omega) (fun j _ _=>hI.ok j)).conv hv,HG.out▸hB1.trans (hW.to_below (Nat.le_refl _) (by rw[HG.out];exact hB1.size))⟩
end Go.Proofs.YtcfbjdplhgdpfaaGreatDoor

import Derived.Test.YtbijncndjlmmdaaGreatDoorMaa
import Derived.Laws.CopyOwn
set_option maxHeartbeats 1600000
set_option maxRecDepth 10000
namespace Go.Proofs.YtbijncndjlmmdaaGreatDoor
set_option linter.unusedVariables false
set_option linter.unusedSimpArgs false
open Go.RowKit
theorem info32:(Tryz.prog.info? 195).map (fun i=>(i.zero,i.size,i.bytes))=some (some (.int .u32 0),1,4):=by kernel_rfl
theorem info32s:(Tryz.prog.info? 195).map (·.size)=some 1:=by kernel_rfl
theorem run_mk (n:Nat) (hn:n≤1000000) (w:World):
 (Instr.makeSlice 223 (.int .i64 (n:Int)) (.int .i64 (n:Int))).run Tryz.prog w=.ok (.slice (some ⟨w.heap.size,0,none⟩) n n) (w.alloc (.cells (madeCells #[.int .u32 0] n) 195)):=
 run_make_row' 223 195 _ 4 Tryz.underlying223 info32 rfl _ _ n (by omega) (by omega) w
theorem run_mkz (n:Nat) (z:Int) (hz:z=(n:Int)) (hn:n≤1000000) (w:World):
 (Instr.makeSlice 223 (.int .i64 z) (.int .i64 z)).run Tryz.prog w=.ok (.slice (some ⟨w.heap.size,0,none⟩) n n) (w.alloc (.cells (madeCells #[.int .u32 0] n) 195)):=by
 subst hz;exact run_mk n hn w
theorem Rw.made (w:World) (n:Nat):Rw (w.alloc (.cells (madeCells #[.int .u32 0] n) 195)) w.heap.size n (fun _=>0):=World.rowIs_made w _ n _
def over (l:List Nat) (F:Nat→Nat):Nat→Nat:=fun j=>if j<l.length then l.getD j 0 else F j
theorem wpList_copy_sz {w:World} {ops:Array Oper} {rest:List Oper} {o:Oper} {a:Act} {Q:Exit→Act→World→Prop} (hgd:o.guard=none) (d s:Operand)
 (ho:o.op=.call {callee:=.builtin .copy,args:=#[d,s],argTypes:=#[223,223]}) (g n ca:Nat) (F:Nat→Nat) (A:Option Addr) (l:List Nat) (c:Nat)
 (hd:a.eval d=.slice (some ⟨g,0,none⟩) n ca) (hs:a.eval s=.slice A l.length c) (hR:Rw w g n F) (hS:Sz w A l) (hle:l.length≤n)
 (h:∀w',Rw w' g n (over l F)→Only g w w'→wpList Tryz.prog ops Q rest (a.put o.dst (goInt l.length)) w'):wpList Tryz.prog ops Q (o::rest) a w:=by
 by_cases h0:l=[]
 · subst h0
   refine wpList_copy_nothing hgd d s _ _ ho 195 Tryz.underlying223 info32s _ _ _ _ _ _ hd hs (by simp) ?_
   exact h w (hR.congr fun j _=>by simp[over]) (Only.refl _ _)
 · obtain⟨b,o',rfl,hlt,hcell⟩:=hS.at_ h0
   obtain⟨cur,hg,hsz,hc⟩:=hR
   have hlen:(l.map fun p=>Value.int .u32 (p:Nat)).length=l.length:=by simp
   refine wpList_copy_own hgd d s _ _ ho 195 Tryz.underlying223 info32s g 0 n ca ⟨b,o',none⟩ l.length c hd hs cur 195 hg (l.map fun p=>Value.int .u32 (p:Nat)) (by rw[hlen];exact(Nat.min_eq_left hle).symm) ?_ (by rw[hlen];omega) (by simp[Value.oneCell']) ?_
   · intro j v hj
     simp only[List.getElem?_map,Option.map_eq_some_iff]at hj
     obtain⟨p,hp,rfl⟩:=hj
     obtain⟨hjl,rfl⟩:=List.getElem?_eq_some_iff.1 hp
     rw[show(⟨b,o',none⟩:Addr).add j=⟨b,o'+j,none⟩by unfold Addr.add;split<;>simp_all];exact hcell j hjl
   · rw[hlen]
     refine h _ ⟨_,setRow_heap w g _ _ _ _ hg,by simp;omega,fun i hi=> ?_⟩ ⟨rfl,rfl,rfl,by simp[World.setRow],fun k _ hk=>setRow_other w g k _ (by intro e;exact hk (by rw[e]))⟩
     show _=some (Value.int .u32 ((if i<l.length then l.getD i 0 else F i:Nat):Int))
     by_cases hi2:i<l.length
     · rw[if_pos hi2]
       simp[hi2,List.getElem?_append_left]
     · rw[if_neg hi2]
       simp only[List.take_zero,List.nil_append,List.getElem?_toArray,Nat.zero_add]
       rw[List.getElem?_append_right (by simp;omega),List.getElem?_drop]
       simp only[List.length_map]
       rw[show l.length+(i-l.length)=i by omega]
       have:=hc i hi
       simpa using this
theorem vf_over (l:List Nat) (F:Nat→Nat):vf (over l F) 0 l.length=val l:=by
 rw[←val_lst]
 congr 1
 refine List.ext_getElem (by simp[lst]) fun i h1 h2=> ?_
 rw[lst_get,Nat.zero_add]
 unfold over
 rw[if_pos h2,List.getD_eq_getElem?_getD,List.getElem?_eq_getElem h2];rfl
theorem vf_over_zero (l:List Nat) {n:Nat} (h:l.length≤n):vf (over l (fun _=>0)) 0 n=val l:=by
 obtain⟨k,rfl⟩:∃k,n=l.length+k:=⟨n-l.length,by omega⟩
 rw[vf_split,vf_over]
 have:vf (over l (fun _=>0)) (0+l.length) k=0:=by
  rw[vf_congr (G:=fun _=>0) (fun j h1 h2=>by unfold over;rw[if_neg (by omega)])]
  have:∀o k,vf (fun _=>0) o k=0:=by
   intro o k
   induction k with
   |zero=>rfl
   |succ k ih=>simp[vf,ih]
  exact this _ _
 rw[this];simp
theorem over_ok {l:List Nat} {F:Nat→Nat} (ol:Ok l) (h:∀j,l.length≤j→F j<1000000000) (j:Nat):over l F j<1000000000:=by
 unfold over;split
 · exact ok_getD ol j
 · exact h j (by omega)
def SzN (w:World) (v:Value) (x:Nat):Prop:=∃A l c,v=.slice A l.length c∧Sz w A l∧Ok l∧Norm l∧val l=x
theorem SzN.of_row {w:World} {g N:Nat} {F:Nat→Nat} (h:Rw w g N F) (o n c:Nat) (hn:o+n≤N) (hF:∀j,o≤j→j<o+n→F j<1000000000):
 SzN w (.slice (some ⟨g,o,none⟩) (trim (lst F o n)).length c) (vf F o n):=by
 refine⟨_,trim (lst F o n),c,rfl,.inr ⟨g,o,rfl,h.lt,fun i hi=> ?_⟩,ok_trim (lst_ok hF),norm_trim _,by rw[val_trim,val_lst]⟩
 have h1:=trim_le (lst F o n)
 rw[lst_length]at h1
 rw[h.cell (i:=o+i) (by omega)]
 have h2:(trim (lst F o n))[i]=F (o+i):=by
  have h3:(trim (lst F o n))[i]?=((lst F o n).take (trim (lst F o n)).length)[i]?:=by rw[←trim_take]
  rw[List.getElem?_take_of_lt hi,List.getElem?_eq_getElem hi,List.getElem?_eq_getElem (by rw[lst_length];omega),lst_get]at h3
  exact Option.some.inj h3
 rw[h2]
theorem trimmed_row (g o n c N:Nat) (F:Nat→Nat) (w:World) (hR:Rw w g N F) (hn:o+n≤N) (hF:∀j,o≤j→j<o+n→F j<1000000000) (hc:n≤c) (hm:c≤maxLen):
 Calls Tryz.prog 300 #[.slice (some ⟨g,o,none⟩) n c] w fun e w'=>e=.returned (.slice (some ⟨g,o,none⟩) (trim (lst F o n)).length c)∧w=w':=by
 have h:=trimmed_any (some ⟨g,o,none⟩) (lst F o n) c w (hR.sz o n hn) (by rw[lst_length];exact hc) hm
 rwa [lst_length]at h
theorem SzN.conv {w:World} {v:Value} {x y:Nat} (h:SzN w v x) (e:x=y):SzN w v y:=e▸h
theorem raise_end {F F':Nat→Nat} {m:List Nat} {o n c x:Nat} (h:RaiseInv F m o n c F') (hm:m.length≤n) (hx:vf F o n+val m=x) (hlt:x<1000000000^n):vf F' o n=x∧c=0:=by
 have e:=h.eq
 rw[List.take_of_length_le hm,hx]at e
 have:c=0:=by
  rcases Nat.eq_zero_or_pos c with h0|h0
  · exact h0
  · have:1000000000^n*1≤1000000000^n*c:=Nat.mul_le_mul_left _ h0
    omega
 subst this
 exact⟨by omega,rfl⟩
theorem sum_lt {l m:List Nat} (ol:Ok l) (om:Ok m) (h:m.length≤l.length):val l+val m<1000000000^(l.length+1):=by
 have h1:=val_lt ol
 have h2:=val_lt om
 have h3:1000000000^m.length≤1000000000^l.length:=Nat.pow_le_pow_right (by decide) h
 rw[Nat.pow_succ];omega
theorem and_le (A B:Option Addr) (l m:List Nat) (c d:Nat) (w:World) (hA:Sz w A l) (hB:Sz w B m) (ol:Ok l) (om:Ok m) (hl:l.length≤1000) (hml:m.length≤l.length):
 Calls Tryz.prog 281 #[.slice A l.length c,.slice B m.length d] w fun e w'=>∃v,e=.returned v∧SzN w' v (val l+val m)∧Below w.heap.size w w':=by
 have hmk:=run_mkz (l.length+1) ((l.length:Int)+1) (by omega) (by omega)
 have hg:¬l.length<m.length:=by omega
 go_enter Tryz.func281,Tryz.ntmps281
 go_wp2_with ((with_reducible refine wpList_copy_sz rfl (.tmp 17) (.tmp 18) rfl w.heap.size (l.length+1) (l.length+1) (fun _=>0) A l c rfl rfl (Rw.made w _) (hA.below ((Below.refl _ _).alloc (Nat.le_refl _) _)) (by omega) ?_);intro w1 hR1 hO1)
 go_wp2_with fail
 have hF:∀j,0≤j→j<0+(l.length+1)→over l (fun _=>0) j<1000000000:=fun j _ _=>over_ok ol (fun _ _=>by decide) j
 have hB1:Below w.heap.size w w1:=(((Below.refl _ _).alloc (Nat.le_refl _) _).trans (hO1.to_below (Nat.le_refl _) (by simp)))
 have hBx:=hB.below hB1
 refine(raise_any w.heap.size 0 (l.length+1) (l.length+1) (l.length+1) _ B m d _ hR1 hF (by omega) (by unfold maxLen;omega) hBx (hB.off (Nat.le_refl _)) om (by unfold maxLen;omega)).mono ?_
 rintro e w2 ⟨c2,F2,rfl,hI,hR2,hO2⟩
 have hend:=raise_end hI (by omega) (by rw[vf_over_zero l (by omega)]) (sum_lt ol om hml)
 have HE:=Lib.hid hend
 have hB2:Below w.heap.size w w2:=hB1.trans (hO2.to_below (Nat.le_refl _) hB1.size)
 clear hend hB1 hO2 hO1 hR1 hBx hB hA
 go_wp2_with fail
 refine(trimmed_row w.heap.size 0 (l.length+1) (l.length+1) (l.length+1) F2 _ hR2 (by omega) hI.ok (by omega) (by unfold maxLen;omega)).mono ?_
 rintro e w3 ⟨rfl,rfl⟩
 go_wp2_with fail
 go_ret
 exact⟨_,rfl,(SzN.of_row hR2 0 _ _ (by omega) hI.ok).conv HE.out.1,hB2⟩
theorem and_gt (A B:Option Addr) (l m:List Nat) (c d:Nat) (w:World) (hA:Sz w A l) (hB:Sz w B m) (ol:Ok l) (om:Ok m) (hl:m.length≤1000) (hml:l.length<m.length):
 Calls Tryz.prog 281 #[.slice A l.length c,.slice B m.length d] w fun e w'=>∃v,e=.returned v∧SzN w' v (val l+val m)∧Below w.heap.size w w':=by
 have hmk:=run_mkz (m.length+1) ((m.length:Int)+1) (by omega) (by omega)
 go_enter Tryz.func281,Tryz.ntmps281
 go_wp2_with ((with_reducible refine wpList_copy_sz rfl (.tmp 17) (.tmp 18) rfl w.heap.size (m.length+1) (m.length+1) (fun _=>0) B m d rfl rfl (Rw.made w _) (hB.below ((Below.refl _ _).alloc (Nat.le_refl _) _)) (by omega) ?_);intro w1 hR1 hO1)
 go_wp2_with fail
 have hF:∀j,0≤j→j<0+(m.length+1)→over m (fun _=>0) j<1000000000:=fun j _ _=>over_ok om (fun _ _=>by decide) j
 have hB1:Below w.heap.size w w1:=(((Below.refl _ _).alloc (Nat.le_refl _) _).trans (hO1.to_below (Nat.le_refl _) (by simp)))
 have hBx:=hA.below hB1
 refine(raise_any w.heap.size 0 (m.length+1) (m.length+1) (m.length+1) _ A l c _ hR1 hF (by omega) (by unfold maxLen;omega) hBx (hA.off (Nat.le_refl _)) ol (by unfold maxLen;omega)).mono ?_
 rintro e w2 ⟨c2,F2,rfl,hI,hR2,hO2⟩
 have hend:=raise_end hI (by omega) (by rw[vf_over_zero m (by omega)]) (sum_lt om ol (by omega))
 have HE:=Lib.hid hend
 have hB2:Below w.heap.size w w2:=hB1.trans (hO2.to_below (Nat.le_refl _) hB1.size)
 clear hend hB1 hO2 hO1 hR1 hBx hB hA
 go_wp2_with fail
 refine(trimmed_row w.heap.size 0 (m.length+1) (m.length+1) (m.length+1) F2 _ hR2 (by omega) hI.ok (by omega) (by unfold maxLen;omega)).mono ?_
 rintro e w3 ⟨rfl,rfl⟩
 go_wp2_with fail
 go_ret
 exact⟨_,rfl,(SzN.of_row hR2 0 _ _ (by omega) hI.ok).conv (HE.out.1.trans (Nat.add_comm _ _)),hB2⟩
theorem and_any (A B:Option Addr) (l m:List Nat) (c d:Nat) (w:World) (hA:Sz w A l) (hB:Sz w B m) (ol:Ok l) (om:Ok m) (hl:l.length≤1000) (hm:m.length≤1000):
 Calls Tryz.prog 281 #[.slice A l.length c,.slice B m.length d] w fun e w'=>∃v,e=.returned v∧SzN w' v (val l+val m)∧Below w.heap.size w w':=by
 by_cases h:l.length<m.length
 · exact and_gt A B l m c d w hA hB ol om hm h
 · exact and_le A B l m c d w hA hB ol om hl (by omega)
end Go.Proofs.YtbijncndjlmmdaaGreatDoor
namespace Go.Proofs.YtbijncndjlmmdaaGreatDoor
set_option linter.unusedVariables false
set_option linter.unusedSimpArgs false
open Go.RowKit
theorem lower_end {F F':Nat→Nat} {m:List Nat} {q o n c x:Nat} (h:LowerInv F m q o n c F') (hm:m.length≤n) (hx:vf F o n=x) (hle:q*val m≤x):vf F' o n=x-q*val m∧c=0:=by
 have e:=h.eq
 rw[List.take_of_length_le hm,hx]at e
 have hlt:=vf_lt h.ok
 have:c=0:=by
  rcases Nat.eq_zero_or_pos c with h0|h0
  · exact h0
  · have:1000000000^n*1≤1000000000^n*c:=Nat.mul_le_mul_left _ h0
    omega
 subst this
 exact⟨by omega,rfl⟩
theorem less_any (A B:Option Addr) (l m:List Nat) (c d:Nat) (w:World) (hA:Sz w A l) (hB:Sz w B m) (ol:Ok l) (om:Ok m) (hl:l.length≤1000) (hml:m.length≤l.length) (hv:val m≤val l):
 Calls Tryz.prog 283 #[.slice A l.length c,.slice B m.length d] w fun e w'=>∃v,e=.returned v∧SzN w' v (val l-val m)∧Below w.heap.size w w':=by
 have hmk:=run_mkz l.length (l.length:Int) (by omega) (by omega)
 have HV:=Lib.hid hv
 clear hv
 go_enter Tryz.func283,Tryz.ntmps283
 go_wp2_with ((with_reducible refine wpList_copy_sz rfl (.tmp 9) (.tmp 10) rfl w.heap.size l.length l.length (fun _=>0) A l c rfl rfl (Rw.made w _) (hA.below ((Below.refl _ _).alloc (Nat.le_refl _) _)) (by omega) ?_);intro w1 hR1 hO1)
 go_wp2_with fail
 have hF:∀j,0≤j→j<0+l.length→over l (fun _=>0) j<1000000000:=fun j _ _=>over_ok ol (fun _ _=>by decide) j
 have hB1:Below w.heap.size w w1:=(((Below.refl _ _).alloc (Nat.le_refl _) _).trans (hO1.to_below (Nat.le_refl _) (by simp)))
 have hBx:=hB.below hB1
 refine(lower_any w.heap.size 0 l.length l.length l.length _ B m d 1 _ hR1 hF (by omega) (by unfold maxLen;omega) hBx (hB.off (Nat.le_refl _)) om (by unfold maxLen;omega) (by omega)).mono ?_
 rintro e w2 ⟨c2,F2,rfl,hI,hR2,hO2⟩
 have hend:=lower_end hI (by omega) (vf_over _ _) (by rw[Nat.one_mul];exact HV.out)
 have HE:=Lib.hid hend
 have hB2:Below w.heap.size w w2:=hB1.trans (hO2.to_below (Nat.le_refl _) hB1.size)
 clear hend hB1 hO2 hO1 hR1 hBx hB hA
 go_wp2_with fail
 refine(trimmed_row w.heap.size 0 l.length l.length l.length F2 _ hR2 (by omega) hI.ok (by omega) (by unfold maxLen;omega)).mono ?_
 rintro e w3 ⟨rfl,rfl⟩
 go_wp2_with fail
 go_ret
 exact⟨_,rfl,(SzN.of_row hR2 0 _ _ (by omega) hI.ok).conv (by rw[HE.out.1,Nat.one_mul]),hB2⟩
structure InInv (F:Nat→Nat) (m:List Nat) (p o k c:Nat) (F':Nat→Nat):Prop where
 le:c≤999999999
 out:∀j,j<o∨o+k≤j→F' j=F j
 ok:∀j,o≤j→j<o+k→F' j<1000000000
 eq:vf F' o k+1000000000^k*c=vf F o k+p*val (m.take k)
theorem InInv.start (F:Nat→Nat) (m:List Nat) (p o:Nat):InInv F m p o 0 0 F:=⟨by omega,fun _ _=>rfl,fun _ h1 h2=>by omega,by simp[vf,val]⟩
theorem mul_le_sq {p q:Nat} (hp:p<1000000000) (hq:q<1000000000):p*q≤999999998000000001:=
 Nat.le_trans (Nat.mul_le_mul (show p≤999999999 by omega) (show q≤999999999 by omega)) (by decide)
theorem InInv.step {F:Nat→Nat} {m:List Nat} {p o k c:Nat} {F':Nat→Nat} (h:InInv F m p o k c F') (hF:F (o+k)<1000000000) (hp:p<1000000000) (hm:Ok m) (hk:k<m.length)
 {x:Nat} (hx:x=c+(F (o+k)+p*m[k])):InInv F m p o (k+1) (x/1000000000) (upd F' (o+k) (x%1000000000)):=by
 have h1:=mul_le_sq hp (ok_get hm hk)
 have h2:=h.le
 refine⟨by omega,fun j hj=> ?_,fun j h3 h4=> ?_,?_⟩
 · unfold upd;rw[if_neg (by omega)];exact h.out j (by omega)
 · unfold upd;split
   · exact Nat.mod_lt _ (by decide)
   · exact h.ok j h3 (by omega)
 · simp only[vf]
   rw[vf_upd_out (.inr (by omega)),val_take_succ]
   have em:m.getD k 0=m[k]:=by rw[List.getD_eq_getElem?_getD,List.getElem?_eq_getElem hk];rfl
   have h3:=h.eq
   have h4:upd F' (o+k) (x%1000000000) (o+k)=x%1000000000:=by unfold upd;rw[if_pos rfl]
   rw[h4,em,Nat.pow_succ,Nat.mul_add]
   have h6:1000000000^k*(x%1000000000)+1000000000^k*1000000000*(x/1000000000)=1000000000^k*x:=by
    rw[Nat.mul_assoc,←Nat.mul_add];congr 1;omega
   have h7:1000000000^k*x=1000000000^k*c+(1000000000^k*F (o+k)+p*(1000000000^k*m[k])):=by
    rw[hx,Nat.mul_add,Nat.mul_add,Nat.mul_left_comm p]
   omega
structure OutInv (l m:List Nat) (i:Nat) (F:Nat→Nat):Prop where
 ok:∀j,F j<1000000000
 zero:∀j,i+m.length≤j→F j=0
 eq:vf F 0 (i+m.length)=val (l.take i)*val m
theorem vf_zero (o k:Nat):vf (fun _=>0) o k=0:=by
 induction k with
 |zero=>rfl
 |succ k ih=>simp[vf,ih]
theorem OutInv.start (l m:List Nat):OutInv l m 0 (fun _=>0):=⟨fun _=>by decide,fun _ _=>rfl,by rw[vf_zero];simp[val]⟩
theorem OutInv.step {l m:List Nat} {i:Nat} {F F':Nat→Nat} {c:Nat} (h:OutInv l m i F) (hi:i<l.length) (k:InInv F m l[i] i m.length c F'):OutInv l m (i+1) (upd F' (i+m.length) c):=by
 have hle:=k.le
 refine⟨fun j=> ?_,fun j hj=> ?_,?_⟩
 · unfold upd;split
   · omega
   · by_cases hj:j<i∨i+m.length≤j
     · rw[k.out j hj];exact h.ok j
     · exact k.ok j (by omega) (by omega)
 · unfold upd;rw[if_neg (by omega),k.out j (by omega)];exact h.zero j (by omega)
 · have e:=k.eq
   rw[List.take_of_length_le (Nat.le_refl _)]at e
   have eo:=h.eq
   rw[vf_split]at eo
   rw[show i+1+m.length=i+(m.length+1)by omega,vf_split,vf_upd_out (.inr (by omega)),vf_congr (F:=F') (G:=F) (fun j h1 h2=>k.out j (by omega)),Nat.zero_add]
   simp only[vf]
   rw[vf_upd_out (.inr (by omega)),show upd F' (i+m.length) c (i+m.length)=c by unfold upd;rw[if_pos rfl],e,val_take_succ]
   have em:l.getD i 0=l[i]:=by rw[List.getD_eq_getElem?_getD,List.getElem?_eq_getElem hi];rfl
   rw[em,Nat.add_mul,Nat.mul_add,←eo,Nat.zero_add,Nat.mul_assoc];omega
end Go.Proofs.YtbijncndjlmmdaaGreatDoor
namespace Go.Proofs.YtbijncndjlmmdaaGreatDoor
set_option linter.unusedVariables false
set_option linter.unusedSimpArgs false
open Go.RowKit
theorem multiplied_any (A B:Option Addr) (l m:List Nat) (c d:Nat) (w:World) (hA:Sz w A l) (hB:Sz w B m) (ol:Ok l) (om:Ok m) (hl:l.length≤1000) (hm:m.length≤1000):
 Calls Tryz.prog 285 #[.slice A l.length c,.slice B m.length d] w fun e w'=>∃v,e=.returned v∧SzN w' v (val l*val m)∧Below w.heap.size w w':=by
 have hmk:=run_mkz (l.length+m.length) ((l.length:Int)+(m.length:Int)) (by omega) (by omega)
 have hB0:∀X,Below w.heap.size w (w.alloc X):=fun X=>(Below.refl _ _).alloc (Nat.le_refl _) _
 have hR0:=Rw.made w (l.length+m.length)
 go_enter Tryz.func285,Tryz.ntmps285
 go_wp2_with fail
 have hO0:=Only.refl w.heap.size (w.alloc (.cells (madeCells #[.int .u32 0] (l.length+m.length)) 195))
 have hB1:=hB0 (.cells (madeCells #[.int .u32 0] (l.length+m.length)) 195)
 clear hmk hB0
 generalize w.alloc (.cells (madeCells #[.int .u32 0] (l.length+m.length)) 195)=w1 at hR0 hO0 hB1 ⊢
 have hA1:=hA.below hB1
 have hB2:=hB.below hB1
 have hAo:=hA.off (Nat.le_refl _)
 have hBo:=hB.off (Nat.le_refl _)
 obtain⟨g,hg⟩:∃g,g=w.heap.size:=⟨_,rfl⟩
 rw[←hg]at hR0 hO0 hB1 hAo hBo ⊢
 have HG:=Lib.hid hg
 clear hg hA hB
 go_loopw [19] (fun i wr=>∃(k:Nat) (F:Nat→Nat),k≤l.length∧i=.int .i64 k∧OutInv l m k F∧Rw wr g (l.length+m.length) F∧Only g w1 wr) (fun i _=>l.length-(intOf i).toNat)
 case atStart=>exact⟨0,_,Nat.zero_le _,rfl,OutInv.start l m,hR0,hO0⟩
 case round=>
  obtain⟨k,F,hk,rfl,hI,hR,hW⟩:=hrel
  by_cases hlt:k<l.length
  · obtain⟨b,o,rfl,hlt',hcell'⟩:=(hA1.only hAo hW).at_ (by rintro rfl;simp at hlt)
    have hcl:=hcell' k hlt
    have hpl:=ok_get ol hlt
    obtain⟨p,hp⟩:∃p,p=l[k]:=⟨_,rfl⟩
    rw[←hp]at hcl hpl
    have HP:=Lib.hid hp
    clear hp hcell' hA1 hR0 hO0
    go_wp2_with fail
    obtain⟨wo,rfl⟩:∃wo:World,wo=wr:=⟨_,rfl⟩
    go_loopw [8,26] (fun cv j wr=>∃(q c:Nat) (F':Nat→Nat),q≤m.length∧j=.int .i64 q∧cv=.int .u64 c∧InInv F m p k q c F'∧Rw wr g (l.length+m.length) F'∧Only g w1 wr) (fun _ j _=>m.length-(intOf j).toNat)
    case atStart=>exact⟨0,0,F,Nat.zero_le _,rfl,rfl,InInv.start F m p k,hR,hW⟩
    case round=>
     obtain⟨q,c,F',hq,rfl,rfl,hJ,hR',hW'⟩:=hrel
     have c1:=hJ.le
     by_cases hqm:q<m.length
     · obtain⟨b',o',rfl,hlt2,hcell2⟩:=(hB2.only hBo hW').at_ (by rintro rfl;simp at hqm)
       have hcm:=hcell2 q hqm
       have hFk:=hI.ok (k+q)
       have e0:F' (k+q)=F (k+q):=hJ.out _ (by omega)
       have hcell:=hR'.cell (i:=k+q) (by omega)
       have hfz:=hR'.frozen (k+q)
       rw[e0]at hcell
       have hbd:=mul_le_sq hpl (ok_get om hqm)
       have hst:=hJ.step (x:=c+(F (k+q)+p*m[q])) hFk hpl om hqm rfl
       have hmq:=ok_get om hqm
       obtain⟨r,hr⟩:∃r,r=p*m[q]:=⟨_,rfl⟩
       have hr2:(p:Int)*(m[q]:Int)=(r:Int):=by rw[hr];push_cast;rfl
       rw[←hr]at hbd hst
       clear e0 hcell2 hr hR hW hI
       go_wp2_with fail
       go_roundw
       case rel=>exact⟨q+1,_,_,by omega,by go_num,by rfl,hst,hR'.set _ _ (by rfl),hW'.setCell _ _⟩
       case measure=>simp[intOf];omega
     · have hqe:q=m.length:=by omega
       subst hqe
       have hst:=hI.step hlt (c:=c) (F':=F') (HP.out▸hJ)
       have hcell:=hR'.cell (i:=k+m.length) (by omega)
       have hfz:=hR'.frozen (k+m.length)
       clear hR hW hI
       go_wp2_with fail
       go_roundw
       case rel=>exact⟨k+1,_,by omega,by go_num,hst,hR'.set _ _ (by rfl),hW'.setCell _ _⟩
       case measure=>simp[intOf];omega
  · have hke:k=l.length:=by omega
    subst hke
    go_wp2_with fail
    refine(trimmed_row g 0 (l.length+m.length) (l.length+m.length) (l.length+m.length) F _ hR (by omega) (fun j _ _=>hI.ok j) (by omega) (by unfold maxLen;omega)).mono ?_
    rintro e w3 ⟨rfl,rfl⟩
    go_wp2_with fail
    go_ret
    have hv:=hI.eq
    rw[List.take_of_length_le (Nat.le_refl _)]at hv
    exact⟨_,rfl,(SzN.of_row hR 0 _ _ (by omega) (fun j _ _=>hI.ok j)).conv hv,HG.out▸hB1.trans (hW.to_below (Nat.le_refl _) (by rw[HG.out];exact hB1.size))⟩
end Go.Proofs.YtbijncndjlmmdaaGreatDoor
namespace Go.Proofs.YtbijncndjlmmdaaGreatDoor
set_option linter.unusedVariables false
set_option linter.unusedSimpArgs false
open Go.RowKit
theorem vf_cons (F:Nat→Nat) (o n:Nat):vf F o (n+1)=F o+1000000000*vf F (o+1) n:=by
 rw[show n+1=1+n by omega,vf_split];simp[vf]
structure CbInv (l:List Nat) (p k r:Nat) (F:Nat→Nat):Prop where
 lt:r<p
 ok:∀j,F j<1000000000
 eq:vf F k (l.length-k)*p+r=val (l.drop k)
theorem CbInv.start (l:List Nat) (p:Nat) (hp:0<p):CbInv l p l.length 0 (fun _=>0):=⟨hp,fun _=>by decide,by simp[vf,val]⟩
theorem quo_lt {p k r x:Nat} (hr:r<p) (hx:x<1000000000):(r*1000000000+x)/p<1000000000:=by
 rw[Nat.div_lt_iff_lt_mul (by omega)]
 have:(r+1)*1000000000≤p*1000000000:=Nat.mul_le_mul_right _ hr
 omega
theorem CbInv.step {l:List Nat} {p k r:Nat} {F:Nat→Nat} (h:CbInv l p (k+1) r F) (hk:k<l.length) (ol:Ok l):
 CbInv l p k ((r*1000000000+l[k])%p) (upd F k ((r*1000000000+l[k])/p)):=by
 have hlt:=h.lt
 refine⟨Nat.mod_lt _ (by omega),fun j=> ?_,?_⟩
 · unfold upd;split
   · exact quo_lt (k:=0) hlt (ok_get ol hk)
   · exact h.ok j
 · have e:=h.eq
   rw[show l.length-k=(l.length-(k+1))+1 by omega,vf_cons,vf_upd_out (.inl (by omega)),show upd F k ((r*1000000000+l[k])/p) k=(r*1000000000+l[k])/p by unfold upd;rw[if_pos rfl]]
   rw[List.drop_eq_getElem_cons hk,val_cons,←e,Nat.add_mul,Nat.mul_add]
   have h1:=Nat.div_add_mod (r*1000000000+l[k]) p
   rw[Nat.mul_comm]at h1
   rw[Nat.mul_assoc 1000000000]
   omega
theorem cb_end {l:List Nat} {p r:Nat} {F:Nat→Nat} (h:CbInv l p 0 r F):vf F 0 l.length=val l/p∧r=val l%p:=by
 have e:=h.eq
 have hlt:=h.lt
 rw[Nat.sub_zero,List.drop_zero]at e
 have e2:val l=r+p*vf F 0 l.length:=by rw[Nat.mul_comm];omega
 constructor
 · rw[e2,Nat.add_mul_div_left _ _ (by omega),Nat.div_eq_of_lt hlt,Nat.zero_add]
 · rw[e2,Nat.add_mul_mod_self_left,Nat.mod_eq_of_lt hlt]
theorem quo_int (r a p:Nat):(((r*1000000000+a)/p:Nat):Int)=((r:Int)*1000000000+(a:Int))/(p:Int):=by
 rw[Int.natCast_ediv,Int.natCast_add,Int.natCast_mul];rfl
theorem rem_int (r a p:Nat):(((r*1000000000+a)%p:Nat):Int)=((r:Int)*1000000000+(a:Int))%(p:Int):=by
 rw[Int.natCast_emod,Int.natCast_add,Int.natCast_mul];rfl
theorem cutByPart_any (A:Option Addr) (l:List Nat) (c p:Nat) (w:World) (hA:Sz w A l) (ol:Ok l) (hl:l.length≤1000) (hp:0<p) (hpB:p<1000000000):
 Calls Tryz.prog 307 #[.slice A l.length c,.int .u32 p] w fun e w'=>∃v,e=.returned (.tuple #[v,.int .u32 (val l%p:Nat)])∧SzN w' v (val l/p)∧Below w.heap.size w w':=by
 have hmk:=run_mkz l.length (l.length:Int) (by omega) (by omega)
 have hB0:∀X,Below w.heap.size w (w.alloc X):=fun X=>(Below.refl _ _).alloc (Nat.le_refl _) _
 have hR0:=Rw.made w l.length
 go_enter Tryz.func307,Tryz.ntmps307
 go_wp2_with fail
 have hO0:=Only.refl w.heap.size (w.alloc (.cells (madeCells #[.int .u32 0] l.length) 195))
 have hB1:=hB0 (.cells (madeCells #[.int .u32 0] l.length) 195)
 clear hmk hB0
 generalize w.alloc (.cells (madeCells #[.int .u32 0] l.length) 195)=w1 at hR0 hO0 hB1 ⊢
 have hA1:=hA.below hB1
 have hAo:=hA.off (Nat.le_refl _)
 obtain⟨g,hg⟩:∃g,g=w.heap.size:=⟨_,rfl⟩
 rw[←hg]at hR0 hO0 hB1 hAo ⊢
 have HG:=Lib.hid hg
 clear hg hA
 go_loopw [6,7] (fun rv i wr=>∃(k r:Nat) (F:Nat→Nat),k≤l.length∧i=.int .i64 ((k:Int)-1)∧rv=.int .u64 r∧CbInv l p k r F∧Rw wr g l.length F∧Only g w1 wr) (fun _ i _=>(intOf i+1).toNat)
 case atStart=>exact⟨l.length,0,_,Nat.le_refl _,rfl,rfl,CbInv.start l p hp,hR0,hO0⟩
 case round=>
  obtain⟨k,r,F,hk,rfl,rfl,hI,hR,hW⟩:=hrel
  have hr:=hI.lt
  rcases k with _|k
  · go_wp2_with fail
    refine(trimmed_row g 0 l.length l.length l.length F _ hR (by omega) (fun j _ _=>hI.ok j) (by omega) (by unfold maxLen;omega)).mono ?_
    rintro e w3 ⟨rfl,rfl⟩
    go_wp2_with fail
    go_ret2
    have hv:=cb_end hI
    exact⟨_,by rw[←hv.2];rfl,(SzN.of_row hR 0 _ _ (by omega) (fun j _ _=>hI.ok j)).conv hv.1,HG.out▸hB1.trans (hW.to_below (Nat.le_refl _) (by rw[HG.out];exact hB1.size))⟩
  · obtain⟨b,o,rfl,hlt',hcell'⟩:=(hA1.only hAo hW).at_ (by rintro rfl;simp at hk)
    have hcl:=hcell' k (by omega)
    have hpl:=ok_get ol (show k<l.length by omega)
    have hst:=hI.step (by omega) ol
    have hq:=quo_lt (k:=0) hr hpl
    have hm:=Nat.mod_lt (r*1000000000+l[k]) (show p>0 by omega)
    have hcell:=hR.cell (i:=k) (by omega)
    have hfz:=hR.frozen k
    have e1:((k+1:Nat):Int)-1=(k:Int):=by omega
    have q1:0≤((r:Int)*1000000000+(l[k]:Int))/(p:Int)∧((r:Int)*1000000000+(l[k]:Int))/(p:Int)≤999999999:=by
     rw[←quo_int];exact⟨Int.natCast_nonneg _,Int.ofNat_le.2 (show _≤999999999 from Nat.le_of_lt_succ hq)⟩
    have q2:0≤((r:Int)*1000000000+(l[k]:Int))%(p:Int)∧((r:Int)*1000000000+(l[k]:Int))%(p:Int)≤999999999:=by
     rw[←rem_int];exact⟨Int.natCast_nonneg _,Int.ofNat_le.2 (show _≤999999999 from Nat.le_of_lt_succ (Nat.lt_of_lt_of_le hm (by omega)))⟩
    rw[e1]
    clear e1 hcell' hA1 hR0 hO0
    go_wp2_with fail
    go_roundw
    case rel=>exact⟨k,_,_,by omega,rfl,by rw[rem_int],hst,hR.set _ _ (quo_int _ _ _).symm,hW.setCell _ _⟩
    case measure=>simp[intOf]
end Go.Proofs.YtbijncndjlmmdaaGreatDoor
namespace Go.Proofs.YtbijncndjlmmdaaGreatDoor
set_option linter.unusedVariables false
set_option linter.unusedSimpArgs false
open Go.RowKit
theorem guess_lo {A V N v q P:Nat} (hN:A<(N+1)*P) (hV:v*P≤V) (hv:0<v) (hq:q=N/v):A<(q+1)*V:=by
 have h1:N+1≤(q+1)*v:=by
  have:=Nat.lt_div_mul_add hv (a:=N)
  rw[←hq]at this
  rw[Nat.add_mul,Nat.one_mul];omega
 have h2:(N+1)*P≤(q+1)*v*P:=Nat.mul_le_mul_right _ h1
 have h3:(q+1)*v*P≤(q+1)*V:=by rw[Nat.mul_assoc];exact Nat.mul_le_mul_left _ hV
 omega
theorem guess_hi {A V N v q P:Nat} (hN:N*P≤A) (hV:V<(v+1)*P) (hq:q=N/v):q*V≤A+q*P:=by
 have h1:q*v≤N:=by rw[hq];exact Nat.div_mul_le_self _ _
 have h2:q*V≤q*((v+1)*P):=Nat.mul_le_mul_left _ (by omega)
 have h3:q*((v+1)*P)=q*v*P+q*P:=by rw[Nat.add_mul,Nat.mul_add,Nat.one_mul,Nat.mul_assoc]
 have h4:q*v*P≤N*P:=Nat.mul_le_mul_right _ h1
 omega
theorem guess_le {N v q:Nat} (hN:N<1000000000000000000) (hv:500000000≤v) (hq:q=N/v):q≤2000000000:=by
 rw[hq]
 have:N/v≤N/500000000:=Nat.div_le_div_left hv (by decide)
 omega
structure TkInv (A V P:Nat) (t:Nat) (below:Bool) (R:Nat):Prop where
 lo:A<(t+1)*V
 no:below=false→t*V≤A∧R+t*V=A
 yes:below=true→A<t*V∧R+t*V=A+P
theorem TkInv.start {A V P q c R:Nat} (hlo:A<(q+1)*V) (he:R+q*V=A+P*c) (hR:R<P) (hhi:q*V≤A+P) (hP:0<P):TkInv A V P q (decide (0<c)) R∧c≤1:=by
 have hc:c≤1:=by
  rcases Nat.lt_or_ge 1 c with h|h
  · have:P*2≤P*c:=Nat.mul_le_mul_left _ h
    omega
  · exact h
 have:c=0∨c=1:=by omega
 rcases this with rfl|rfl
 · exact⟨⟨hlo,fun _=>⟨by omega,by omega⟩,fun h=>by simp at h⟩,hc⟩
 · exact⟨⟨hlo,fun h=>by simp at h,fun _=>⟨by omega,by omega⟩⟩,hc⟩
theorem TkInv.next {A V P t R c R':Nat} (h:TkInv A V P t true R) (he:R'+P*c=R+V) (hc:c≤1) (hA:A<P) (hR':R'<P):1≤t∧TkInv A V P (t-1) (!decide (0<c)) R':=by
 obtain⟨h1,h2⟩:=h.yes rfl
 have ht:1≤t:=by
  rcases Nat.eq_zero_or_pos t with h0|h0
  · subst h0;omega
  · exact h0
 refine⟨ht,?_⟩
 obtain⟨s,rfl⟩:∃s,t=s+1:=⟨t-1,by omega⟩
 rw[Nat.add_sub_cancel]
 have h3:(s+1)*V=s*V+V:=by rw[Nat.add_mul,Nat.one_mul]
 rw[h3]at h1 h2
 have:c=0∨c=1:=by omega
 rcases this with rfl|rfl
 · refine⟨by rw[h3];omega,fun h=>by simp at h,fun _=>⟨?_,by omega⟩⟩
   omega
 · exact⟨by rw[h3];omega,fun _=>⟨by omega,by omega⟩,fun h=>by simp at h⟩
theorem TkInv.fin {A V P t R:Nat} (h:TkInv A V P t false R):t=A/V∧R=A%V:=by
 obtain⟨h1,h2⟩:=h.no rfl
 have h3:=h.lo
 rw[Nat.add_mul,Nat.one_mul]at h3
 have hV:0<V:=by omega
 have e:A=R+V*t:=by rw[Nat.mul_comm];omega
 have hR:R<V:=by omega
 constructor
 · rw[e,Nat.add_mul_div_left _ _ hV,Nat.div_eq_of_lt hR,Nat.zero_add]
 · rw[e,Nat.add_mul_mod_self_left,Nat.mod_eq_of_lt hR]
theorem top_two {F:Nat→Nat} {o n:Nat} (hF:∀j,o≤j→j<o+(n+2)→F j<1000000000):
 (F (o+(n+1))*1000000000+F (o+n))*1000000000^n≤vf F o (n+2)∧vf F o (n+2)<(F (o+(n+1))*1000000000+F (o+n)+1)*1000000000^n:=by
 have h1:vf F o n<1000000000^n:=vf_lt fun j a b=>hF j a (by omega)
 have e:vf F o (n+2)=vf F o n+(F (o+(n+1))*1000000000+F (o+n))*1000000000^n:=by
  show vf F o n+1000000000^n*F (o+n)+1000000000^(n+1)*F (o+(n+1))=_
  rw[Nat.pow_succ,Nat.add_mul,Nat.mul_comm (F (o+n))]
  have:1000000000^n*1000000000*F (o+(n+1))=F (o+(n+1))*1000000000*1000000000^n:=by
   rw[Nat.mul_comm (F (o+(n+1))*1000000000),Nat.mul_assoc,Nat.mul_comm 1000000000 (F _)]
  omega
 rw[e,Nat.add_mul (F (o+(n+1))*1000000000+F (o+n)) 1]
 omega
theorem top_one {m:List Nat} {n:Nat} (om:Ok m) (hn:m.length=n+1):m.getD n 0*1000000000^n≤val m∧val m<(m.getD n 0+1)*1000000000^n:=by
 have h1:val (m.take n)<1000000000^n:=by
  have:=val_lt (ok_take om n)
  rwa [List.length_take,Nat.min_eq_left (by omega)]at this
 have e:=val_take_succ m n
 rw[List.take_of_length_le (by omega),Nat.mul_comm]at e
 rw[e,Nat.add_mul]
 omega
end Go.Proofs.YtbijncndjlmmdaaGreatDoor
namespace Go.Proofs.YtbijncndjlmmdaaGreatDoor
set_option linter.unusedVariables false
set_option linter.unusedSimpArgs false
open Go.RowKit
theorem two_int (a b v:Nat):(((a*1000000000+b)/v:Nat):Int)=((a:Int)*1000000000+(b:Int))/(v:Int):=quo_int a b v
def TkPost (w:World) (g o N n:Nat) (F:Nat→Nat) (V:Nat) (e:Ending) (w':World):Prop:=
 ∃F',e=.returned (.int .u32 (vf F o (n+2)/V:Nat))∧(∀j,j<o∨o+(n+2)≤j→F' j=F j)∧(∀j,o≤j→j<o+(n+2)→F' j<1000000000)∧vf F' o (n+2)=vf F o (n+2)%V∧Rw w' g N F'∧Only g w w'
theorem lower_len (g o n ca N:Nat) (F:Nat→Nat) (B:Option Addr) (m:List Nat) (ml cb:Nat) (q:Nat) (w:World) (hlen:m.length=ml) (hR:Rw w g N F) (hF:∀j,o≤j→j<o+n→F j<1000000000) (hn:o+n≤N) (hN:N≤maxLen)
 (hB:Sz w B m) (hO:Off B g) (om:Ok m) (hm:ml≤maxLen) (hq:q≤2000000000):
 Calls Tryz.prog 303 #[.slice (some ⟨g,o,none⟩) n ca,.slice B ml cb,.int .u64 q] w fun e w'=>∃c F',e=.returned (.bool (decide (0<c)))∧LowerInv F m q o n c F'∧Rw w' g N F'∧Only g w w':=by
 subst hlen;exact lower_any g o n ca N F B m cb q w hR hF hn hN hB hO om hm hq
theorem raise_len (g o n ca N:Nat) (F:Nat→Nat) (B:Option Addr) (m:List Nat) (ml cb:Nat) (w:World) (hlen:m.length=ml) (hR:Rw w g N F) (hF:∀j,o≤j→j<o+n→F j<1000000000) (hn:o+n≤N) (hN:N≤maxLen)
 (hB:Sz w B m) (hO:Off B g) (om:Ok m) (hm:ml≤maxLen):
 Calls Tryz.prog 299 #[.slice (some ⟨g,o,none⟩) n ca,.slice B ml cb] w fun e w'=>∃c F',e=.returned (.bool (decide (0<c)))∧RaiseInv F m o n c F'∧Rw w' g N F'∧Only g w w':=by
 subst hlen;exact raise_any g o n ca N F B m cb w hR hF hn hN hB hO om hm
structure TkFacts (A V P q:Nat):Prop where
 lo:A<(q+1)*V
 hi:q*V≤A+P
 lt:A<P
 pos:0<P
 few:A<1000000000*V
theorem takeOut_any (g o ca N n:Nat) (F:Nat→Nat) (B:Option Addr) (m:List Nat) (d:Nat) (w:World) (hR:Rw w g N F) (hF:∀j,o≤j→j<o+(n+2)→F j<1000000000) (hn:o+(n+2)≤N) (hN:N≤2000)
 (hB:Sz w B m) (hO:Off B g) (om:Ok m) (hm:m.length=n+1) (hv:500000000≤m.getD n 0) (hlt:vf F o (n+2)<1000000000*val m):
 Calls Tryz.prog 317 #[.slice (some ⟨g,o,none⟩) (n+2) ca,.slice B (n+1) d] w (TkPost w g o N n F (val m)):=by
 obtain⟨b,o',rfl,hlt',hcell'⟩:=hB.at_ (by rintro rfl;simp at hm)
 have hcm:=hcell' n (by omega)
 have em:m.getD n 0=m[n]:=by rw[List.getD_eq_getElem?_getD,List.getElem?_eq_getElem (by omega)];rfl
 have hc1:=hR.cell (i:=o+(n+1)) (by omega)
 have hc0:=hR.cell (i:=o+n) (by omega)
 have f1:=hF (o+(n+1)) (by omega) (by omega)
 have f0:=hF (o+n) (by omega) (by omega)
 obtain⟨t1,t2⟩:=top_two hF
 obtain⟨m1,m2⟩:=top_one om hm
 rw[em]at hv m1 m2
 obtain⟨q,hq⟩:∃q,q=(F (o+(n+1))*1000000000+F (o+n))/m[n]:=⟨_,rfl⟩
 have hq0:=guess_le (by omega) hv hq
 have hlo:=guess_lo t2 m1 (by omega) hq
 have hhi:=guess_hi t1 m2 hq
 have hq2:((F (o+(n+1)):Int)*1000000000+(F (o+n):Int))/(m[n]:Int)=(q:Int):=by rw[hq,two_int]
 have hP:vf F o (n+2)<1000000000^(n+2):=vf_lt hF
 have hP2:q*1000000000^n≤1000000000^(n+2):=by
  rw[Nat.pow_succ,Nat.pow_succ,Nat.mul_assoc,Nat.mul_comm]
  exact Nat.mul_le_mul_left _ (by omega)
 have hVP:0<1000000000^(n+2):=Nat.pow_pos (by decide)
 have HL:TkFacts (vf F o (n+2)) (val m) (1000000000^(n+2)) q:=⟨hlo,by omega,hP,hVP,hlt⟩
 clear hlo hhi t1 t2 m1 m2 hP hP2 hVP hlt hq em hcell'
 go_enter Tryz.func317,Tryz.ntmps317
 go_wp2_with fail
 have x1:IntKind.i64.wrap ((n:Int)+1)=(n:Int)+1:=IntWalk.i64_in _ (by omega)
 have x2:((n:Int)+1).toNat=n+1:=by omega
 have x3:(n:Int)+1<(n:Int)+2:=by omega
 have x4:(0:Int)≤(n:Int)+1:=by omega
 have x5:(n:Int)<(n:Int)+2:=by omega
 have x7:(n:Int)<(n:Int)+1:=by omega
 have x8:IntKind.u64.wrap ((F (o+(n+1)):Int)*1000000000)=(F (o+(n+1)):Int)*1000000000:=IntWalk.u64_in _ (by omega)
 have x9:IntKind.u64.wrap ((F (o+(n+1)):Int)*1000000000+(F (o+n):Int))=(F (o+(n+1)):Int)*1000000000+(F (o+n):Int):=IntWalk.u64_in _ (by omega)
 have x10:IntKind.u64.wrap (((F (o+(n+1)):Int)*1000000000+(F (o+n):Int)).tdiv (m[n]:Int))=(q:Int):=by rw[IntWalk.u64_quo _ _ (by omega),hq2]
 have x11:IntKind.u64.wrap (F (o+(n+1)):Int)=(F (o+(n+1)):Int):=IntWalk.u64_in _ (by omega)
 have x12:IntKind.u64.wrap (F (o+n):Int)=(F (o+n):Int):=IntWalk.u64_in _ (by omega)
 have x13:IntKind.u64.wrap (m[n]:Int)=(m[n]:Int):=IntWalk.u64_in _ (by have:=ok_get om (show n<m.length by omega);omega)
 go_quiet (fail)
 clear x1 x2 x3 x4 x5 x7 x8 x9 x10 x11 x12 x13
 go_wp2_with fail
 refine(lower_len g o (n+2) ca N F _ m _ d q _ hm (hR.drewN _) hF (by omega) (by unfold maxLen;omega) (hB.drawn ⟨_,rfl⟩) hO om (by unfold maxLen;omega) hq0).mono ?_
 rintro e w2 ⟨c2,F2,rfl,hI,hR2,hO2⟩
 go_wp2_with fail
 have hst:TkInv (vf F o (n+2)) (val m) (1000000000^(n+2)) q (decide (0<c2)) (vf F2 o (n+2)):=by
  have e:=hI.eq
  rw[List.take_of_length_le (by omega)]at e
  exact(TkInv.start HL.lo e (vf_lt hI.ok) HL.hi HL.pos).1
 have ho2:Only g w w2:=((Only.refl g w).drewN nq).trans hO2
 have hout:=hI.out
 have hok:=hI.ok
 generalize decide (0<c2)=bl at hst ⊢
 clear hI hO2 hq2 hcm hc1 hc0 f1 f0 hF hR
 go_loopw [6,7] (fun tv bv wr=>∃(t:Nat) (bl:Bool) (F':Nat→Nat),tv=.int .u64 t∧t≤2000000000∧bv=.bool bl∧TkInv (vf F o (n+2)) (val m) (1000000000^(n+2)) t bl (vf F' o (n+2))∧(∀j,j<o∨o+(n+2)≤j→F' j=F j)∧(∀j,o≤j→j<o+(n+2)→F' j<1000000000)∧Rw wr g N F'∧Only g w wr) (fun tv _ _=>(intOf tv).toNat)
 case atStart=>exact⟨q,bl,F2,rfl,hq0,rfl,hst,hout,hok,hR2,ho2⟩
 case round=>
  clear hst ho2 hout hok hR2
  obtain⟨t,bl,F',rfl,ht,rfl,hI,hout,hok,hR',hW⟩:=hrel
  cases bl
  · obtain⟨e1,e2⟩:=hI.fin
    have ht2:t<1000000000:=by
     rw[e1];exact Nat.div_lt_of_lt_mul (by rw[Nat.mul_comm];exact HL.few)
    have HE:=Lib.hid e1
    clear e1
    go_wp2_with fail
    go_ret
    exact⟨F',ret_int (by rw[HE.out]),hout,hok,e2,hR',hW⟩
  · go_wp2_with fail
    refine(raise_len g o (n+2) ca N F' _ m _ d _ hm hR' hok (by omega) (by unfold maxLen;omega) (hB.only hO hW) hO om (by unfold maxLen;omega)).mono ?_
    rintro e w3 ⟨c3,F3,rfl,hJ,hR3,hO3⟩
    have he:=hJ.eq
    rw[List.take_of_length_le (by omega)]at he
    obtain⟨h1,h2⟩:=hI.next he hJ.le HL.lt (vf_lt hJ.ok)
    have hout3:∀j,j<o∨o+(n+2)≤j→F3 j=F j:=fun j hj=>(hJ.out j hj).trans (hout j hj)
    have hok3:=hJ.ok
    have hW3:=hW.trans hO3
    have hb3:(!decide (0<c3))=(!decide (0<c3)):=rfl
    generalize decide (0<c3)=b3 at h2 ⊢
    clear hI hout hok hR' hW he hJ hO3 hb3
    go_wp2_with fail
    go_roundw
    case rel=>exact⟨t-1,!b3,F3,by go_num,by omega,rfl,h2,hout3,hok3,hR3,hW3⟩
    case measure=>simp[intOf];omega
end Go.Proofs.YtbijncndjlmmdaaGreatDoor

import Derived.Lib.ItoaNum
import Derived.Test.YtbijncndjlmmdaaGreatDoorProg
import Derived.WalkKit
import Derived.WalkSpells
import Derived.WalkLawsBesides
import Derived.Lib.Hide
import Derived.BigQuiet
import Derived.Deep.QuietTactic
import Derived.Deep.OwnRows
set_option maxHeartbeats 1600000
namespace Go.Proofs.YtbijncndjlmmdaaGreatDoor
set_option linter.unusedVariables false
set_option linter.unusedSimpArgs false
def val:List Nat→Nat
 |[]=>0
 |a::r=>a+1000000000*val r
def Ok (l:List Nat):Prop:=∀p∈l,p<1000000000
def trim:List Nat→List Nat
 |[]=>[]
 |a::r=>if trim r=[]∧a=0 then[]else a::trim r
def Norm (l:List Nat):Prop:=trim l=l
theorem val_nil:val []=0:=rfl
theorem val_cons (a:Nat) (r:List Nat):val (a::r)=a+1000000000*val r:=rfl
theorem val_append (l m:List Nat):val (l++m)=val l+1000000000^l.length*val m:=by
 induction l with
 |nil=>simp[val]
 |cons a r ih=>simp only[List.cons_append,val,ih,List.length_cons,Nat.pow_succ];rw[Nat.mul_add,←Nat.mul_assoc,Nat.mul_comm (1000000000^r.length) 1000000000];omega
theorem val_snoc (l:List Nat) (a:Nat):val (l++[a])=val l+1000000000^l.length*a:=by rw[val_append];simp[val]
theorem ok_cons {a:Nat} {r:List Nat}:Ok (a::r)↔a<1000000000∧Ok r:=by simp[Ok]
theorem ok_append {l m:List Nat}:Ok (l++m)↔Ok l∧Ok m:=by
 simp only[Ok,List.mem_append]
 exact⟨fun h=>⟨fun p hp=>h p (.inl hp),fun p hp=>h p (.inr hp)⟩,fun h p hp=>hp.elim (h.1 p) (h.2 p)⟩
theorem ok_nil:Ok []:=by simp[Ok]
theorem ok_take {l:List Nat} (h:Ok l) (k:Nat):Ok (l.take k):=fun p hp=>h p (List.mem_of_mem_take hp)
theorem ok_drop {l:List Nat} (h:Ok l) (k:Nat):Ok (l.drop k):=fun p hp=>h p (List.mem_of_mem_drop hp)
theorem ok_get {l:List Nat} (h:Ok l) {i:Nat} (hi:i<l.length):l[i]<1000000000:=h _ (List.getElem_mem hi)
theorem ok_getD {l:List Nat} (h:Ok l) (i:Nat):l.getD i 0<1000000000:=by
 by_cases hi:i<l.length
 · rw[List.getD_eq_getElem?_getD,List.getElem?_eq_getElem hi];exact h _ (List.getElem_mem hi)
 · rw[List.getD_eq_getElem?_getD,List.getElem?_eq_none (by omega)];decide
theorem val_lt {l:List Nat} (h:Ok l):val l<1000000000^l.length:=by
 induction l with
 |nil=>simp[val]
 |cons a r ih=>
  obtain⟨h1,h2⟩:=ok_cons.1 h
  have:=ih h2
  rw[val_cons,List.length_cons,Nat.pow_succ]
  omega
theorem trim_snoc_zero (l:List Nat):trim (l++[0])=trim l:=by
 induction l with
 |nil=>simp[trim]
 |cons a r ih=>simp only[List.cons_append,trim,ih]
theorem trim_snoc {l:List Nat} {a:Nat} (h:a≠0):trim (l++[a])=l++[a]:=by
 induction l with
 |nil=>simp[trim,h]
 |cons b r ih=>simp[trim,ih]
theorem val_trim (l:List Nat):val (trim l)=val l:=by
 induction l with
 |nil=>rfl
 |cons a r ih=>
  simp only[trim]
  split
  · rename_i h;rw[h.1]at ih;simp[val]at ih ⊢;omega
  · simp[val,ih]
theorem trim_le (l:List Nat):(trim l).length≤l.length:=by
 induction l with
 |nil=>simp[trim]
 |cons a r ih=>simp only[trim];split<;>simp<;>omega
theorem trim_take (l:List Nat):trim l=l.take (trim l).length:=by
 induction l with
 |nil=>simp[trim]
 |cons a r ih=>
  simp only[trim]
  split
  · simp
  · rw[List.length_cons,List.take_succ_cons,←ih]
theorem trim_trim (l:List Nat):trim (trim l)=trim l:=by
 induction l with
 |nil=>rfl
 |cons a r ih=>
  simp only[trim]
  split
  · rfl
  · rename_i h;simp only[trim,ih];rw[if_neg h]
theorem norm_trim (l:List Nat):Norm (trim l):=trim_trim l
theorem ok_trim {l:List Nat} (h:Ok l):Ok (trim l):=by rw[trim_take];exact ok_take h _
theorem norm_nil:Norm []:=rfl
theorem norm_last {l:List Nat} (h:Norm l) (hne:l≠[]):∃m a,l=m++[a]∧a≠0:=by
 refine⟨l.dropLast,l.getLast hne,(List.dropLast_concat_getLast hne).symm,fun h0=> ?_⟩
 have e:=(List.dropLast_concat_getLast hne).symm
 rw[h0]at e
 unfold Norm at h
 rw[e,trim_snoc_zero]at h
 have:=trim_le l.dropLast
 have l2:=congrArg List.length h
 simp at l2 this
 omega
theorem norm_ge {l:List Nat} (h:Norm l) (hne:l≠[]):1000000000^(l.length-1)≤val l:=by
 obtain⟨m,a,rfl,ha⟩:=norm_last h hne
 rw[val_snoc,List.length_append]
 simp only[List.length_cons,List.length_nil,Nat.zero_add,Nat.add_sub_cancel]
 have:1000000000^m.length*1≤1000000000^m.length*a:=Nat.mul_le_mul_left _ (by omega)
 omega
theorem norm_val_zero {l:List Nat} (h:Norm l):val l=0↔l=[]:=by
 constructor
 · intro h0
   by_cases hne:l=[]
   · exact hne
   · have:=norm_ge h hne
     have:1≤1000000000^(l.length-1):=Nat.one_le_pow _ _ (by decide)
     omega
 · rintro rfl;rfl
theorem norm_len_lt {l m:List Nat} (ol:Ok l) (nm:Norm m) (h:l.length<m.length):val l<val m:=by
 have hne:m≠[]:=by intro e;simp[e]at h
 have h1:=norm_ge nm hne
 have h2:=val_lt ol
 have h3:1000000000^l.length≤1000000000^(m.length-1):=Nat.pow_le_pow_right (by decide) (by omega)
 omega
def cmpN (a b:Nat):Int:=if a<b then-1 else if b<a then 1 else 0
def cmpI (a b:Int):Int:=if a<b then-1 else if b<a then 1 else 0
theorem val_drop (l:List Nat) (k:Nat) (h:k≤l.length):val l=val (l.take k)+1000000000^k*val (l.drop k):=by
 conv=>lhs;rw[←List.take_append_drop k l,val_append,List.length_take,Nat.min_eq_left h]
theorem cmp_drop {l m:List Nat} (ol:Ok l) (om:Ok m) (hlen:l.length=m.length) {k:Nat} (hk:k<l.length) (he:l.drop (k+1)=m.drop (k+1)) (hlt:l[k]<m[k]'(hlen▸hk)):val l<val m:=by
 have hk':k<m.length:=hlen▸hk
 rw[val_drop l k (by omega),val_drop m k (by omega),List.drop_eq_getElem_cons hk,List.drop_eq_getElem_cons hk',he,val_cons,val_cons]
 have h1:=val_lt (ok_take ol k)
 rw[List.length_take,Nat.min_eq_left (by omega)]at h1
 have h2:1000000000^k*(l[k]+1+1000000000*val (m.drop (k+1)))≤1000000000^k*(m[k]+1000000000*val (m.drop (k+1))):=Nat.mul_le_mul_left _ (by omega)
 rw[show l[k]+1+1000000000*val (m.drop (k+1))=(l[k]+1000000000*val (m.drop (k+1)))+1 from by omega,Nat.mul_add,Nat.mul_one]at h2
 omega
end Go.Proofs.YtbijncndjlmmdaaGreatDoor
namespace Go.Proofs.YtbijncndjlmmdaaGreatDoor
set_option linter.unusedVariables false
set_option linter.unusedSimpArgs false
open Go.RowKit
def Sz (w:World) (A:Option Addr) (l:List Nat):Prop:=
 (A=none∧l=[])∨∃b o,A=some ⟨b,o,none⟩∧b<w.heap.size∧∀i (h:i<l.length),w.cell? ⟨b,o+i,none⟩=some (.int .u32 l[i])
theorem Sz.at_ {w:World} {A:Option Addr} {l:List Nat} (h:Sz w A l) (hne:l≠[]):
 ∃b o,A=some ⟨b,o,none⟩∧b<w.heap.size∧∀i (h:i<l.length),w.cell? ⟨b,o+i,none⟩=some (.int .u32 l[i]):=by
 rcases h with⟨_,e⟩|h
 · exact absurd e hne
 · exact h
theorem Sz.below {w w':World} {A:Option Addr} {l:List Nat} (h:Sz w A l) (hb:Below w.heap.size w w'):Sz w' A l:=by
 rcases h with h|⟨b,o,e,hlt,hc⟩
 · exact .inl h
 · exact .inr ⟨b,o,e,Nat.lt_of_lt_of_le hlt hb.size,fun i hi=>(hb.cell (p:=⟨b,o+i,none⟩) hlt).trans (hc i hi)⟩
theorem ret_slice {A:Option Addr} {n m c:Nat} (h:n=m):Ending.returned (.slice A n c)=.returned (.slice A m c):=by rw[h]
theorem ret_int {k:IntKind} {a b:Int} (h:a=b):Ending.returned (.int k a)=.returned (.int k b):=by rw[h]
theorem ret_str {a b:ByteArray} (h:a=b):Ending.returned (.string a)=.returned (.string b):=by rw[h]
theorem trim_take_succ {l:List Nat} {m:Nat} (h:m<l.length) (h0:l[m]=0):trim (l.take (m+1))=trim (l.take m):=by
 rw[List.take_succ_eq_append_getElem h,h0,trim_snoc_zero]
theorem trim_take_stop {l:List Nat} {m:Nat} (h:m<l.length) (h0:l[m]≠0):(trim (l.take (m+1))).length=m+1:=by
 rw[List.take_succ_eq_append_getElem h,trim_snoc h0]
 simp;omega
theorem trimmed_any (A:Option Addr) (l:List Nat) (c:Nat) (w:World) (hs:Sz w A l) (hc:l.length≤c) (hm:c≤maxLen):
 Calls Tryz.prog 300 #[.slice A l.length c] w fun e w'=>e=.returned (.slice A (trim l).length c)∧w=w':=by
 unfold maxLen at hm
 rcases hs with⟨rfl,rfl⟩|⟨b,o,rfl,hlt,hcell⟩
 · go_enter Tryz.func300,Tryz.ntmps300
   go_wp2
   go_loop [0] (fun v=>v=.slice none 0 c) (fun _=>0)
   case atStart=>rfl
   case round=>
    subst hrel
    go_wp2
    go_ret
    exact⟨rfl,rfl⟩
 · go_enter Tryz.func300,Tryz.ntmps300
   go_wp2
   go_loop [0] (fun v=>∃m:Nat,m≤l.length∧v=.slice (some ⟨b,o,none⟩) m c∧trim (l.take m)=trim l) (fun v=>match v with| .slice _ n _=>n|_=>0)
   case atStart=>exact⟨l.length,Nat.le_refl _,rfl,by simp⟩
   case round=>
    obtain⟨m,hml,rfl,hE⟩:=hrel
    have HE:=Lib.hid hE
    clear hE
    rcases m with _|m
    · go_wp2
      go_ret
      have h1:=HE.out
      simp[trim]at h1
      exact⟨ret_slice (by rw[h1];rfl),rfl⟩
    · have hcm:=hcell m (by omega)
      by_cases h0:l[m]=0
      · rw[h0]at hcm
        go_wp2
        go_round
        case rel=>exact⟨m,by omega,rfl,by rw[←trim_take_succ (by omega) h0];exact HE.out⟩
        case measure=>simp
      · have hne:(((l[m]:Nat):Int)==0)=false:=by simp;omega
        go_wp2
        go_ret
        exact⟨ret_slice (by rw[←HE.out,trim_take_stop (by omega) h0]),rfl⟩
end Go.Proofs.YtbijncndjlmmdaaGreatDoor
namespace Go.Proofs.YtbijncndjlmmdaaGreatDoor
set_option linter.unusedVariables false
set_option linter.unusedSimpArgs false
open Go.RowKit
theorem cmp32_any (a b:Int) (w:World):Calls Tryz.prog 302 #[.int .u32 a,.int .u32 b] w fun e w'=>e=.returned (.int .i64 (cmpI a b))∧w=w':=by
 unfold cmpI
 rcases Int.lt_trichotomy a b with h|rfl|h
 · rw[if_pos h]
   go_enter Tryz.func302,Tryz.ntmps302
   go_wp2
   go_ret
   exact⟨rfl,rfl⟩
 · rw[if_neg (by omega),if_neg (by omega)]
   go_enter Tryz.func302,Tryz.ntmps302
   go_wp2
   go_ret
   exact⟨rfl,rfl⟩
 · rw[if_neg (by omega),if_pos h]
   have h':¬a<b:=by omega
   go_enter Tryz.func302,Tryz.ntmps302
   go_wp2
   go_ret
   exact⟨rfl,rfl⟩
theorem cmpi_any (a b:Int) (w:World):Calls Tryz.prog 301 #[.int .i64 a,.int .i64 b] w fun e w'=>e=.returned (.int .i64 (cmpI a b))∧w=w':=by
 unfold cmpI
 rcases Int.lt_trichotomy a b with h|rfl|h
 · rw[if_pos h]
   go_enter Tryz.func301,Tryz.ntmps301
   go_wp2
   go_ret
   exact⟨rfl,rfl⟩
 · rw[if_neg (by omega),if_neg (by omega)]
   go_enter Tryz.func301,Tryz.ntmps301
   go_wp2
   go_ret
   exact⟨rfl,rfl⟩
 · rw[if_neg (by omega),if_pos h]
   have h':¬a<b:=by omega
   go_enter Tryz.func301,Tryz.ntmps301
   go_wp2
   go_ret
   exact⟨rfl,rfl⟩
theorem cmps_any (a b:Int) (w:World):Calls Tryz.prog 289 #[.int .i64 a,.int .i64 b] w fun e w'=>e=.returned (.int .i64 (cmpI a b))∧w=w':=by
 unfold cmpI
 rcases Int.lt_trichotomy a b with h|rfl|h
 · rw[if_pos h]
   go_enter Tryz.func289,Tryz.ntmps289
   go_wp2
   go_ret
   exact⟨rfl,rfl⟩
 · rw[if_neg (by omega),if_neg (by omega)]
   go_enter Tryz.func289,Tryz.ntmps289
   go_wp2
   go_ret
   exact⟨rfl,rfl⟩
 · rw[if_neg (by omega),if_pos h]
   have h':¬a<b:=by omega
   go_enter Tryz.func289,Tryz.ntmps289
   go_wp2
   go_ret
   exact⟨rfl,rfl⟩
theorem cmpI_nat (a b:Nat):cmpI (a:Int) (b:Int)=cmpN a b:=by unfold cmpI cmpN;simp only[Int.ofNat_lt]
theorem cmpN_eq {a b:Nat}:cmpN a b=0↔a=b:=by unfold cmpN;split<;>(try split)<;>omega
theorem cmpN_lt {a b:Nat} (h:a<b):cmpN a b= -1:=by unfold cmpN;rw[if_pos h]
theorem cmpN_gt {a b:Nat} (h:b<a):cmpN a b=1:=by unfold cmpN;rw[if_neg (by omega),if_pos h]
theorem cmpN_self (a:Nat):cmpN a a=0:=cmpN_eq.2 rfl
theorem cmp_of_drop {l m:List Nat} (ol:Ok l) (om:Ok m) (hlen:l.length=m.length) {k:Nat} (hk:k<l.length) (hk':k<m.length) (he:l.drop (k+1)=m.drop (k+1)) (hne:l[k]≠m[k]):
 cmpN l[k] m[k]=cmpN (val l) (val m):=by
 rcases Nat.lt_or_gt_of_ne hne with h|h
 · rw[cmpN_lt h,cmpN_lt (cmp_drop ol om hlen hk he h)]
 · rw[cmpN_gt h,cmpN_gt (cmp_drop om ol hlen.symm hk' he.symm h)]
def CmpVal (l m:List Nat):Int:=cmpN (val l) (val m)
theorem cmp_len {l m:List Nat} (ol:Ok l) (om:Ok m) (nl:Norm l) (nm:Norm m) (h:l.length≠m.length):cmpN l.length m.length=CmpVal l m:=by
 unfold CmpVal
 rcases Nat.lt_or_gt_of_ne h with h|h
 · rw[cmpN_lt h,cmpN_lt (norm_len_lt ol nm h)]
 · rw[cmpN_gt h,cmpN_gt (norm_len_lt om nl h)]
def Same (l m:List Nat) (k:Nat):Prop:=l.drop k=m.drop k
theorem same_down {l m:List Nat} {k:Nat} (hk:k<l.length) (hk':k<m.length) (h:Same l m (k+1)) (he:l[k]=m[k]):Same l m k:=by
 unfold Same at*
 rw[List.drop_eq_getElem_cons hk,List.drop_eq_getElem_cons hk',h,he]
def Drawn (w w':World):Prop:=∃n,w'=w.drewN n
theorem Drawn.refl (w:World):Drawn w w:=⟨0,rfl⟩
theorem Drawn.cell {w w':World} (h:Drawn w w') (a:Addr):w'.cell? a=w.cell? a:=by obtain⟨n,rfl⟩:=h;rfl
theorem Drawn.more {w w':World} (h:Drawn w w') (n:Nat):Drawn w (w'.drewN n):=by
 obtain⟨m,rfl⟩:=h
 exact⟨m+n,by rw[World.drewN_drewN]⟩
theorem Drawn.heap {w w':World} (h:Drawn w w'):w'.heap=w.heap:=by obtain⟨n,rfl⟩:=h;rfl
theorem cmp_at {a b z:Int} (h:cmpI a b=z) (w:World):Calls Tryz.prog 301 #[.int .i64 a,.int .i64 b] w fun e w'=>e=.returned (.int .i64 z)∧w=w':=by
 rw[←h];exact cmpi_any a b w
theorem cmp32_q {a b z:Int} (h:cmpI a b=z) (w:World):Calls Tryz.prog 302 #[.int .u32 a,.int .u32 b] w fun e w'=>e=.returned (.int .i64 z)∧w'=w:=by
 rw[←h];exact(cmp32_any a b w).mono fun _ _ h=>⟨h.1,h.2.symm⟩
theorem compared_any (A B:Option Addr) (l m:List Nat) (c d:Nat) (w:World) (hA:Sz w A l) (hB:Sz w B m) (ol:Ok l) (om:Ok m) (nl:Norm l) (nm:Norm m) (hc:l.length≤maxLen) (hd:m.length≤maxLen):
 Calls Tryz.prog 282 #[.slice A l.length c,.slice B m.length d] w fun e w'=>e=.returned (.int .i64 (CmpVal l m))∧Drawn w w':=by
 unfold maxLen at hc hd
 by_cases hlen:l.length=m.length
 · have hz:cmpI (l.length:Int) (m.length:Int)=0:=by rw[cmpI_nat,cmpN_eq.2 hlen]
   by_cases hne:l=[]
   · subst hne
     have hm0:m=[]:=List.eq_nil_of_length_eq_zero hlen.symm
     subst hm0
     have H1:=Lib.hid (cmp_at hz w)
     clear hz
     go_enter Tryz.func282,Tryz.ntmps282
     go_wp2_with fail
     refine H1.out.mono ?_
     rintro e w1 ⟨rfl,rfl⟩
     go_wp2_with fail
     go_loop [6] (fun i=>i=.int .i64 (-1)) (fun _=>0)
     case atStart=>rfl
     case round=>
      subst hrel
      go_wp2_with fail
      go_ret
      exact⟨rfl,Drawn.refl _⟩
   · obtain⟨b,o,rfl,hlt,hcell⟩:=hA.at_ hne
     obtain⟨b',o',rfl,hlt',hcell'⟩:=hB.at_ (by rintro rfl;exact hne (List.eq_nil_of_length_eq_zero hlen))
     have H1:=Lib.hid (cmp_at hz w)
     have HL:=Lib.hid hlen
     have h1:1≤l.length:=by cases l with
      |nil=>exact absurd rfl hne
      |cons a r=>simp
     have h2:l.length≤m.length∧m.length≤l.length:=by omega
     clear hz hlen hA hB
     go_enter Tryz.func282,Tryz.ntmps282
     go_wp2_with fail
     refine H1.out.mono ?_
     rintro e w1 ⟨rfl,rfl⟩
     go_wp2_with fail
     go_loopw [6] (fun i wr=>∃k:Nat,k≤l.length∧i=.int .i64 ((k:Int)-1)∧Same l m k∧Drawn w wr) (fun i _=>(intOf i+1).toNat)
     case atStart=>exact⟨l.length,Nat.le_refl _,rfl,by unfold Same;rw[List.drop_length,HL.out,List.drop_length],Drawn.refl _⟩
     case round=>
      obtain⟨k,hk,rfl,hS,hW⟩:=hrel
      rcases k with _|k
      · go_wp2_with fail
        go_ret
        have hv:l=m:=by simpa[Same]using hS
        exact⟨ret_int (by unfold CmpVal;rw[hv,cmpN_self]),hW⟩
      · have hcl:=(hW.cell ⟨b,o+k,none⟩).trans (hcell k (by omega))
        have hcm:=(hW.cell ⟨b',o'+k,none⟩).trans (hcell' k (by omega))
        have e1:((k+1:Nat):Int)-1=(k:Int):=by omega
        rw[e1]
        by_cases he:l[k]=m[k]
        · have hq:=cmp32_q (show cmpI (l[k]:Int) (m[k]:Int)=0 by rw[cmpI_nat,cmpN_eq.2 he])
          have HQ:=Lib.hid hq
          have HE:=Lib.hid he
          clear hq he
          go_wp2_with fail
          go_quiet ((go_at_call 302;exact Calls.quiet_of_same (HQ.out _)))
          go_wp2_with fail
          go_roundw
          case rel=>exact⟨k,by omega,rfl,same_down (by omega) (by omega) hS HE.out,hW.more _⟩
          case measure=>simp[intOf]
        · obtain⟨z,hzz⟩:∃z,z=CmpVal l m:=⟨_,rfl⟩
          have hv:cmpN l[k] m[k]=z:=by rw[hzz];exact cmp_of_drop ol om HL.out (by omega) (by omega) hS he
          have hz1:(z != 0)=true:=by rw[bne_iff_ne,←hv];exact fun h=>he (cmpN_eq.1 h)
          have hq:=cmp32_q (show cmpI (l[k]:Int) (m[k]:Int)=z by rw[cmpI_nat,hv])
          have HQ:=Lib.hid hq
          have HZ:=Lib.hid hzz
          clear hq hv hzz he
          go_wp2_with fail
          go_quiet ((go_at_call 302;exact Calls.quiet_of_same (HQ.out _)))
          go_wp2_with fail
          go_ret
          exact⟨ret_int HZ.out,hW.more _⟩
 · have hz:=cmp_len ol om nl nm hlen
   have hn:cmpI (l.length:Int) (m.length:Int)≠0:=by rw[cmpI_nat];intro h;exact hlen (cmpN_eq.1 h)
   rw[←cmpI_nat]at hz
   rw[hz]at hn
   have hn':(CmpVal l m != 0)=true:=by rw[bne_iff_ne];exact hn
   have H1:=Lib.hid (cmp_at hz w)
   clear hz hn
   go_enter Tryz.func282,Tryz.ntmps282
   go_wp2_with fail
   refine H1.out.mono ?_
   rintro e w1 ⟨rfl,rfl⟩
   go_wp2_with fail
   go_ret
   exact⟨rfl,Drawn.refl _⟩
end Go.Proofs.YtbijncndjlmmdaaGreatDoor
namespace Go.Proofs.YtbijncndjlmmdaaGreatDoor
set_option linter.unusedVariables false
set_option linter.unusedSimpArgs false
open Go.RowKit
def Rw (w:World) (g N:Nat) (F:Nat→Nat):Prop:=w.rowIs g 195 N (fun j=>Value.int .u32 (F j:Nat))
def upd (F:Nat→Nat) (i x:Nat):Nat→Nat:=fun j=>if j=i then x else F j
def vf (F:Nat→Nat) (o:Nat):Nat→Nat
 | 0=>0
 |n+1=>vf F o n+1000000000^n*F (o+n)
def lst (F:Nat→Nat) (o n:Nat):List Nat:=(List.range n).map fun i=>F (o+i)
theorem lst_length (F:Nat→Nat) (o n:Nat):(lst F o n).length=n:=by simp[lst]
theorem lst_get (F:Nat→Nat) (o n i:Nat) (h:i<(lst F o n).length):(lst F o n)[i]=F (o+i):=by simp[lst]
theorem lst_succ (F:Nat→Nat) (o n:Nat):lst F o (n+1)=lst F o n++[F (o+n)]:=by simp[lst,List.range_succ]
theorem val_lst (F:Nat→Nat) (o n:Nat):val (lst F o n)=vf F o n:=by
 induction n with
 |zero=>rfl
 |succ n ih=>rw[lst_succ,val_snoc,ih,lst_length];rfl
theorem vf_congr {F G:Nat→Nat} {o n:Nat} (h:∀j,o≤j→j<o+n→F j=G j):vf F o n=vf G o n:=by
 induction n with
 |zero=>rfl
 |succ n ih=>simp only[vf];rw[ih (fun j h1 h2=>h j h1 (by omega)),h (o+n) (by omega) (by omega)]
theorem lst_ok {F:Nat→Nat} {o n:Nat} (h:∀j,o≤j→j<o+n→F j<1000000000):Ok (lst F o n):=by
 intro p hp
 simp only[lst,List.mem_map,List.mem_range]at hp
 obtain⟨i,hi,rfl⟩:=hp
 exact h _ (by omega) (by omega)
theorem vf_upd_out {F:Nat→Nat} {o n i x:Nat} (h:i<o∨o+n≤i):vf (upd F i x) o n=vf F o n:=
 vf_congr fun j h1 h2=>by unfold upd;rw[if_neg (by omega)]
theorem vf_lt {F:Nat→Nat} {o n:Nat} (h:∀j,o≤j→j<o+n→F j<1000000000):vf F o n<1000000000^n:=by
 have:=val_lt (lst_ok h);rwa [val_lst,lst_length]at this
theorem vf_split (F:Nat→Nat) (o k n:Nat):vf F o (k+n)=vf F o k+1000000000^k*vf F (o+k) n:=by
 induction n with
 |zero=>simp[vf]
 |succ n ih=>
  show vf F o (k+n)+1000000000^(k+n)*F (o+(k+n))=_
  rw[ih]
  show _=vf F o k+1000000000^k*(vf F (o+k) n+1000000000^n*F (o+k+n))
  rw[Nat.mul_add,Nat.pow_add,Nat.mul_assoc (1000000000^k) (1000000000^n),Nat.add_assoc o k n];omega
theorem val_take_succ (m:List Nat) (k:Nat):val (m.take (k+1))=val (m.take k)+1000000000^k*m.getD k 0:=by
 by_cases h:k<m.length
 · rw[List.take_succ_eq_append_getElem h,val_snoc,List.length_take,Nat.min_eq_left (by omega),List.getD_eq_getElem?_getD,List.getElem?_eq_getElem h];rfl
 · rw[List.take_of_length_le (by omega),List.take_of_length_le (by omega),List.getD_eq_getElem?_getD,List.getElem?_eq_none (by omega)];simp
theorem Rw.cell {w:World} {g N:Nat} {F:Nat→Nat} (h:Rw w g N F) {i:Nat} (hi:i<N):w.cell? ⟨g,i,none⟩=some (.int .u32 (F i:Nat)):=World.rowIs.cell h hi
theorem Rw.frozen {w:World} {g N:Nat} {F:Nat→Nat} (h:Rw w g N F) (i:Nat):w.frozen? ⟨g,i,none⟩=false:=World.rowIs.frozen h i
theorem Rw.lt {w:World} {g N:Nat} {F:Nat→Nat} (h:Rw w g N F):g<w.heap.size:=World.rowIs.lt h
theorem Rw.set {w:World} {g N:Nat} {F:Nat→Nat} (h:Rw w g N F) (i x:Nat) {v:Int} (hv:v=(x:Int)):Rw (w.setCell ⟨g,i,none⟩ (.int .u32 v)) g N (upd F i x):=by
 subst hv
 refine(World.rowIs.set h i _).congr fun j _=> ?_
 unfold upd
 split<;>rfl
theorem Rw.congr {w:World} {g N:Nat} {F G:Nat→Nat} (h:Rw w g N F) (e:∀j,j<N→F j=G j):Rw w g N G:=World.rowIs.congr h fun j hj=>by rw[e j hj]
theorem Rw.of_block {w w':World} {g N:Nat} {F:Nat→Nat} (h:Rw w g N F) (e:w'.heap[g]?=w.heap[g]?):Rw w' g N F:=World.rowIs.of_block h e
theorem Rw.drewN {w:World} {g N:Nat} {F:Nat→Nat} (h:Rw w g N F) (n:Nat):Rw (w.drewN n) g N F:=h
theorem Rw.sz {w:World} {g N:Nat} {F:Nat→Nat} (h:Rw w g N F) (o n:Nat) (hn:o+n≤N):Sz w (some ⟨g,o,none⟩) (lst F o n):=
 .inr ⟨g,o,rfl,h.lt,fun i hi=>by rw[lst_get];rw[lst_length]at hi;exact h.cell (by omega)⟩
def Only (g:Nat) (w w':World):Prop:=w.grownBy w' (some g)
theorem Only.refl (g:Nat) (w:World):Only g w w:=World.grownBy.refl w _
theorem Only.trans {g:Nat} {a b c:World} (h:Only g a b) (k:Only g b c):Only g a c:=
 ⟨k.os.trans h.os,k.tape.trans h.tape,k.output.trans h.output,Nat.le_trans h.size k.size,fun i hi hne=>(k.block i (Nat.lt_of_lt_of_le hi h.size) hne).trans (h.block i hi hne)⟩
theorem Only.setCell {g:Nat} {a w:World} (h:Only g a w) (i:Nat) (u:Value):Only g a (w.setCell ⟨g,i,none⟩ u):=
 ⟨h.os,h.tape,h.output,by simpa[World.setCell]using h.size,fun i hi hne=>(Below.heap_setCell w _ u i (by rintro rfl;exact hne rfl)).trans (h.block i hi hne)⟩
theorem Only.drewN {g:Nat} {a w:World} (h:Only g a w) (n:Nat):Only g a (w.drewN n):=⟨h.os,h.tape,h.output,h.size,h.block⟩
theorem Only.to_below {g B:Nat} {a w:World} (h:Only g a w) (hg:B≤g) (hB:B≤a.heap.size):Below B a w:=
 ⟨h.os,h.tape,h.output,h.size,fun i hi=>h.block i (by omega) (by intro e;injection e with e;omega)⟩
def Off (A:Option Addr) (g:Nat):Prop:=∀a,A=some a→a.block≠g
theorem Sz.only {w w':World} {A:Option Addr} {l:List Nat} {g:Nat} (h:Sz w A l) (ho:Off A g) (hb:Only g w w'):Sz w' A l:=by
 rcases h with h|⟨b,o,e,hlt,hc⟩
 · exact .inl h
 · have hne:b≠g:=ho _ e
   exact .inr ⟨b,o,e,Nat.lt_of_lt_of_le hlt hb.size,fun i hi=>(World.cell?_of_block (a:=⟨b,o+i,none⟩) (hb.block b hlt (by intro e;injection e with e;exact hne e))).trans (hc i hi)⟩
theorem Sz.drawn {w w':World} {A:Option Addr} {l:List Nat} (h:Sz w A l) (hd:Drawn w w'):Sz w' A l:=by obtain⟨n,rfl⟩:=hd;exact h
theorem Sz.off {w:World} {A:Option Addr} {l:List Nat} (h:Sz w A l) {g:Nat} (hg:w.heap.size≤g):Off A g:=by
 rcases h with⟨rfl,_⟩|⟨b,o,rfl,hlt,_⟩
 · intro a e;cases e
 · intro a e;injection e with e;subst e;show b≠g;omega
structure RaiseInv (F:Nat→Nat) (m:List Nat) (o k c:Nat) (F':Nat→Nat):Prop where
 le:c≤1
 out:∀j,j<o∨o+k≤j→F' j=F j
 ok:∀j,o≤j→j<o+k→F' j<1000000000
 eq:vf F' o k+1000000000^k*c=vf F o k+val (m.take k)
theorem RaiseInv.start (F:Nat→Nat) (m:List Nat) (o:Nat):RaiseInv F m o 0 0 F:=⟨by omega,fun _ _=>rfl,fun _ h1 h2=>by omega,by simp[vf,val]⟩
theorem RaiseInv.step {F:Nat→Nat} {m:List Nat} {o k c:Nat} {F':Nat→Nat} (h:RaiseInv F m o k c F') (hF:F (o+k)<1000000000) (hm:Ok m) {x:Nat} (hx:x=c+F (o+k)+m.getD k 0):
 RaiseInv F m o (k+1) (x/1000000000) (upd F' (o+k) (x%1000000000)):=by
 have h1:=h.le
 have h2:=ok_getD hm k
 refine⟨by omega,fun j hj=> ?_,fun j h3 h4=> ?_,?_⟩
 · unfold upd;rw[if_neg (by omega)];exact h.out j (by omega)
 · unfold upd;split
   · exact Nat.mod_lt _ (by decide)
   · exact h.ok j h3 (by omega)
 · simp only[vf]
   rw[vf_upd_out (.inr (by omega)),val_take_succ]
   have h3:=h.eq
   have h4:upd F' (o+k) (x%1000000000) (o+k)=x%1000000000:=by unfold upd;rw[if_pos rfl]
   rw[h4,Nat.pow_succ]
   have h5:=Nat.div_add_mod x 1000000000
   have h6:1000000000^k*(x%1000000000)+1000000000^k*1000000000*(x/1000000000)=1000000000^k*x:=by
    rw[Nat.mul_assoc,←Nat.mul_add];congr 1;omega
   have h7:1000000000^k*x=1000000000^k*c+1000000000^k*F (o+k)+1000000000^k*m.getD k 0:=by rw[hx,Nat.mul_add,Nat.mul_add]
   omega
theorem raise_any (g o n ca N:Nat) (F:Nat→Nat) (B:Option Addr) (m:List Nat) (cb:Nat) (w:World) (hR:Rw w g N F) (hF:∀j,o≤j→j<o+n→F j<1000000000) (hn:o+n≤N) (hN:N≤maxLen)
 (hB:Sz w B m) (hO:Off B g) (om:Ok m) (hm:m.length≤maxLen):
 Calls Tryz.prog 299 #[.slice (some ⟨g,o,none⟩) n ca,.slice B m.length cb] w fun e w'=>∃c F',e=.returned (.bool (decide (0<c)))∧RaiseInv F m o n c F'∧Rw w' g N F'∧Only g w w':=by
 unfold maxLen at hN hm
 go_enter Tryz.func299,Tryz.ntmps299
 go_wp2_with fail
 go_loopw [5,9] (fun c i wr=>∃(k cN:Nat) (F':Nat→Nat),k≤n∧i=.int .i64 k∧c=.int .u32 cN∧RaiseInv F m o k cN F'∧Rw wr g N F'∧Only g w wr) (fun _ i _=>n-(intOf i).toNat)
 case atStart=>exact⟨0,0,F,Nat.zero_le _,rfl,rfl,RaiseInv.start _ _ _,hR,Only.refl _ _⟩
 case round=>
  obtain⟨k,cN,F',hk,rfl,rfl,hI,hR',hW⟩:=hrel
  by_cases hlt:k<n
  · have c1:=hI.le
    have hFk:=hF (o+k) (by omega) (by omega)
    have e0:F' (o+k)=F (o+k):=hI.out _ (by omega)
    have hcell:=hR'.cell (i:=o+k) (by omega)
    have hfz:=hR'.frozen (o+k)
    rw[e0]at hcell
    by_cases hmk:k<m.length
    · obtain⟨b,o',rfl,hlt',hcell'⟩:=(hB.only hO hW).at_ (by rintro rfl;simp at hmk)
      have hcm:=hcell' k hmk
      have hmk2:=ok_get om hmk
      have hst:=hI.step hFk om (x:=cN+F (o+k)+m[k]) (by rw[List.getD_eq_getElem?_getD,List.getElem?_eq_getElem hmk];rfl)
      clear e0 hF hcell'
      go_wp2_with fail
      go_roundw
      case rel=>exact⟨k+1,_,_,by omega,by go_num,by rfl,hst,hR'.set _ _ (by rfl),hW.setCell _ _⟩
      case measure=>simp[intOf];omega
    · have hst:=hI.step hFk om (x:=cN+F (o+k)) (by rw[List.getD_eq_getElem?_getD,List.getElem?_eq_none (by omega)];rfl)
      clear e0 hF
      go_wp2_with fail
      go_roundw
      case rel=>exact⟨k+1,_,_,by omega,by go_num,by rfl,hst,hR'.set _ _ (by rfl),hW.setCell _ _⟩
      case measure=>simp[intOf];omega
  · have hkn:k=n:=by omega
    subst hkn
    go_wp2_with fail
    go_ret
    exact⟨cN,F',by simp,hI,hR',hW⟩
end Go.Proofs.YtbijncndjlmmdaaGreatDoor
namespace Go.Proofs.YtbijncndjlmmdaaGreatDoor
set_option linter.unusedVariables false
set_option linter.unusedSimpArgs false
open Go.RowKit
theorem upd_upd (F:Nat→Nat) (i x y:Nat):upd (upd F i x) i y=upd F i y:=by
 funext j;unfold upd;split<;>rfl
structure LowerInv (F:Nat→Nat) (m:List Nat) (q o k c:Nat) (F':Nat→Nat):Prop where
 le:c≤2000000002
 out:∀j,j<o∨o+k≤j→F' j=F j
 ok:∀j,o≤j→j<o+k→F' j<1000000000
 eq:vf F' o k+q*val (m.take k)=vf F o k+1000000000^k*c
theorem LowerInv.start (F:Nat→Nat) (m:List Nat) (q o:Nat):LowerInv F m q o 0 0 F:=⟨by omega,fun _ _=>rfl,fun _ h1 h2=>by omega,by simp[vf,val]⟩
theorem mul_le_bd {q x:Nat} (hq:q≤2000000000) (hx:x<1000000000):q*x≤1999999998000000000:=
 Nat.le_trans (Nat.mul_le_mul hq (show x≤999999999 by omega)) (by decide)
theorem LowerInv.step {F:Nat→Nat} {m:List Nat} {q o k c:Nat} {F':Nat→Nat} (h:LowerInv F m q o k c F') (hF:F (o+k)<1000000000) (hm:Ok m) (hq:q≤2000000000)
 {y c':Nat} (hy:y<1000000000) (hy2:y+(c+q*m.getD k 0)=F (o+k)+1000000000*c') (hc':c'≤2000000002):LowerInv F m q o (k+1) c' (upd F' (o+k) y):=by
 refine⟨hc',fun j hj=> ?_,fun j h3 h4=> ?_,?_⟩
 · unfold upd;rw[if_neg (by omega)];exact h.out j (by omega)
 · unfold upd;split
   · exact hy
   · exact h.ok j h3 (by omega)
 · simp only[vf]
   rw[vf_upd_out (.inr (by omega)),val_take_succ]
   have h3:=h.eq
   have h4:upd F' (o+k) y (o+k)=y:=by unfold upd;rw[if_pos rfl]
   rw[h4,Nat.pow_succ]
   have h6:=congrArg (fun z=>1000000000^k*z) hy2
   simp only[Nat.mul_add]at h6
   rw[Nat.mul_add]
   have h7:q*(1000000000^k*m.getD k 0)=1000000000^k*(q*m.getD k 0):=by rw[Nat.mul_left_comm]
   have h8:1000000000^k*1000000000*c'=1000000000^k*(1000000000*c'):=by rw[Nat.mul_assoc]
   omega
theorem LowerInv.step_ge {F:Nat→Nat} {m:List Nat} {q o k c:Nat} {F':Nat→Nat} (h:LowerInv F m q o k c F') (hF:F (o+k)<1000000000) (hm:Ok m) (hq:q≤2000000000)
 {x:Nat} (hx:x=c+q*m.getD k 0) (hge:x%1000000000≤F (o+k)):LowerInv F m q o (k+1) (x/1000000000) (upd F' (o+k) (F (o+k)-x%1000000000)):=by
 have h1:=mul_le_bd hq (ok_getD hm k)
 have h2:=h.le
 exact h.step hF hm hq (by omega) (by omega) (by omega)
theorem LowerInv.step_lt {F:Nat→Nat} {m:List Nat} {q o k c:Nat} {F':Nat→Nat} (h:LowerInv F m q o k c F') (hF:F (o+k)<1000000000) (hm:Ok m) (hq:q≤2000000000)
 {x:Nat} (hx:x=c+q*m.getD k 0) (hge:F (o+k)<x%1000000000):LowerInv F m q o (k+1) (x/1000000000+1) (upd F' (o+k) (F (o+k)+1000000000-x%1000000000)):=by
 have h1:=mul_le_bd hq (ok_getD hm k)
 have h2:=h.le
 exact h.step hF hm hq (by omega) (by omega) (by omega)
theorem lower_any (g o n ca N:Nat) (F:Nat→Nat) (B:Option Addr) (m:List Nat) (cb:Nat) (q:Nat) (w:World) (hR:Rw w g N F) (hF:∀j,o≤j→j<o+n→F j<1000000000) (hn:o+n≤N) (hN:N≤maxLen)
 (hB:Sz w B m) (hO:Off B g) (om:Ok m) (hm:m.length≤maxLen) (hq:q≤2000000000):
 Calls Tryz.prog 303 #[.slice (some ⟨g,o,none⟩) n ca,.slice B m.length cb,.int .u64 q] w fun e w'=>∃c F',e=.returned (.bool (decide (0<c)))∧LowerInv F m q o n c F'∧Rw w' g N F'∧Only g w w':=by
 unfold maxLen at hN hm
 go_enter Tryz.func303,Tryz.ntmps303
 go_wp2_with fail
 go_loopw [7,12] (fun c i wr=>∃(k cN:Nat) (F':Nat→Nat),k≤n∧i=.int .i64 k∧c=.int .u64 cN∧LowerInv F m q o k cN F'∧Rw wr g N F'∧Only g w wr) (fun _ i _=>n-(intOf i).toNat)
 case atStart=>exact⟨0,0,F,Nat.zero_le _,rfl,rfl,LowerInv.start _ _ _ _,hR,Only.refl _ _⟩
 case round=>
  obtain⟨k,cN,F',hk,rfl,rfl,hI,hR',hW⟩:=hrel
  by_cases hlt:k<n
  · have c1:=hI.le
    have hFk:=hF (o+k) (by omega) (by omega)
    have e0:F' (o+k)=F (o+k):=hI.out _ (by omega)
    have hcell:=hR'.cell (i:=o+k) (by omega)
    have hfz:=hR'.frozen (o+k)
    rw[e0]at hcell
    by_cases hmk:k<m.length
    · obtain⟨b,o',rfl,hlt',hcell'⟩:=(hB.only hO hW).at_ (by rintro rfl;simp at hmk)
      have hcm:=hcell' k hmk
      have hmk2:=ok_get om hmk
      have em:m.getD k 0=m[k]:=by rw[List.getD_eq_getElem?_getD,List.getElem?_eq_getElem hmk];rfl
      have hbd:=mul_le_bd hq hmk2
      obtain⟨p,hp⟩:∃p,p=q*m[k]:=⟨_,rfl⟩
      have hp2:(q:Int)*(m[k]:Int)=(p:Int):=by rw[hp];push_cast;rfl
      rw[←hp]at hbd
      by_cases hge:(cN+p)%1000000000≤F (o+k)
      · have hst:=hI.step_ge hFk om hq (x:=cN+p) (by rw[em,hp]) hge
        have HP:=Lib.hid hp
        clear e0 hF hcell' em hp
        go_wp2_with fail
        go_roundw
        case rel=>exact⟨k+1,_,_,by omega,by go_num,by rfl,hst,hR'.set _ _ (by omega),hW.setCell _ _⟩
        case measure=>simp[intOf];omega
      · have hst:=hI.step_lt hFk om hq (x:=cN+p) (by rw[em,hp]) (by omega)
        have HP:=Lib.hid hp
        clear e0 hF hcell' em hp
        have h32:F (o+k)+1000000000≤4294967295:=by omega
        go_wp2_with fail
        go_roundw
        case rel=>exact⟨k+1,_,_,by omega,by go_num,by rfl,hst,by rw[←upd_upd F' (o+k) (F (o+k)+1000000000)];exact(hR'.set _ _ (by omega)).set _ _ (by omega),(hW.setCell _ _).setCell _ _⟩
        case measure=>simp[intOf];omega
    · have em:m.getD k 0=0:=by rw[List.getD_eq_getElem?_getD,List.getElem?_eq_none (by omega)];rfl
      by_cases hge:cN%1000000000≤F (o+k)
      · have hst:=hI.step_ge hFk om hq (x:=cN) (by rw[em,Nat.mul_zero,Nat.add_zero]) hge
        clear e0 hF em
        go_wp2_with fail
        go_roundw
        case rel=>exact⟨k+1,_,_,by omega,by go_num,by rfl,hst,hR'.set _ _ (by omega),hW.setCell _ _⟩
        case measure=>simp[intOf];omega
      · have hst:=hI.step_lt hFk om hq (x:=cN) (by rw[em,Nat.mul_zero,Nat.add_zero]) (by omega)
        clear e0 hF em
        have h32:F (o+k)+1000000000≤4294967295:=by omega
        go_wp2_with fail
        go_roundw
        case rel=>exact⟨k+1,_,_,by omega,by go_num,by rfl,hst,by rw[←upd_upd F' (o+k) (F (o+k)+1000000000)];exact(hR'.set _ _ (by omega)).set _ _ (by omega),(hW.setCell _ _).setCell _ _⟩
        case measure=>simp[intOf];omega
  · have hkn:k=n:=by omega
    subst hkn
    go_wp2_with fail
    go_ret
    exact⟨cN,F',by simp,hI,hR',hW⟩
end Go.Proofs.YtbijncndjlmmdaaGreatDoor

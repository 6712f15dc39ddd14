import Derived.Lib.ItoaNum
import Derived.Test.YtcfbjdplhgdpfaaGreatDoorMad
set_option maxHeartbeats 1600000
set_option maxRecDepth 10000
namespace Go.Proofs.YtcfbjdplhgdpfaaGreatDoor
set_option linter.unusedVariables false
set_option linter.unusedSimpArgs false
open Go.Lib
theorem snocInd {α:Type} {P:List α→Prop} (nil:P []) (snoc:∀m c,P m→P (m++[c])) (l:List α):P l:=by
 have:∀r:List α,P r.reverse:=by
  intro r
  induction r with
  |nil=>exact nil
  |cons a r ih=>rw[List.reverse_cons];exact snoc _ _ ih
 have h:=this l.reverse
 rwa [List.reverse_reverse]at h
def dval (l:List UInt8):Nat:=l.foldl (fun a c=>a*10+(c.toNat-48)) 0
def AllDig (l:List UInt8):Prop:=∀c∈l,48≤c.toNat∧c.toNat≤57
theorem dval_snoc (l:List UInt8) (c:UInt8):dval (l++[c])=dval l*10+(c.toNat-48):=by simp[dval]
theorem dval_append (l m:List UInt8):dval (l++m)=dval l*10^m.length+dval m:=by
 induction m using snocInd with
 |nil=>simp[dval]
 |snoc m c ih=>
  rw[←List.append_assoc,dval_snoc,ih,dval_snoc,List.length_append]
  simp only[List.length_cons,List.length_nil,Nat.zero_add,Nat.pow_succ]
  rw[Nat.add_mul,Nat.mul_assoc];omega
theorem dval_cons (c:UInt8) (l:List UInt8):dval (c::l)=(c.toNat-48)*10^l.length+dval l:=by
 rw[show c::l=[c]++l from rfl,dval_append];simp[dval]
theorem allDig_nil:AllDig []:=by simp[AllDig]
theorem allDig_append {l m:List UInt8}:AllDig (l++m)↔AllDig l∧AllDig m:=by
 simp only[AllDig,List.mem_append]
 exact⟨fun h=>⟨fun p hp=>h p (.inl hp),fun p hp=>h p (.inr hp)⟩,fun h p hp=>hp.elim (h.1 p) (h.2 p)⟩
theorem allDig_cons {c:UInt8} {l:List UInt8}:AllDig (c::l)↔(48≤c.toNat∧c.toNat≤57)∧AllDig l:=by simp[AllDig]
theorem allDig_take {l:List UInt8} (h:AllDig l) (k:Nat):AllDig (l.take k):=fun p hp=>h p (List.mem_of_mem_take hp)
theorem allDig_drop {l:List UInt8} (h:AllDig l) (k:Nat):AllDig (l.drop k):=fun p hp=>h p (List.mem_of_mem_drop hp)
theorem dval_lt {l:List UInt8} (h:AllDig l):dval l<10^l.length:=by
 induction l using snocInd with
 |nil=>simp[dval]
 |snoc m c ih=>
  obtain⟨h1,h2⟩:=allDig_append.1 h
  have h3:=ih h1
  have h4:=(allDig_cons.1 h2).1
  rw[dval_snoc,List.length_append]
  simp only[List.length_cons,List.length_nil,Nat.zero_add,Nat.pow_succ]
  omega
theorem dig_toNat {d:Nat} (h:d<10):(UInt8.ofNat (48+d)).toNat=48+d:=by
 rw[UInt8.toNat_ofNat'];omega
theorem decDigits_small {n:Nat} (h:n<10):decDigits n=[UInt8.ofNat (48+n)]:=by rw[decDigits,dif_pos h]
theorem decDigits_big {n:Nat} (h:¬n<10):decDigits n=decDigits (n/10)++[UInt8.ofNat (48+n%10)]:=by rw[decDigits,dif_neg h]
theorem decDigits_all (n:Nat):AllDig (decDigits n)∧dval (decDigits n)=n:=by
 induction n using Nat.strongRecOn with
 |ind n ih=>
  by_cases h:n<10
  · rw[decDigits_small h]
    have:=dig_toNat h
    exact⟨allDig_cons.2 ⟨by omega,allDig_nil⟩,by rw[dval_cons,this];simp[dval]⟩
  · rw[decDigits_big h]
    obtain⟨h1,h2⟩:=ih (n/10) (by omega)
    have:=dig_toNat (show n%10<10 by omega)
    exact⟨allDig_append.2 ⟨h1,allDig_cons.2 ⟨by omega,allDig_nil⟩⟩,by rw[dval_snoc,h2,this];omega⟩
theorem dval_decDigits (n:Nat):dval (decDigits n)=n:=(decDigits_all n).2
theorem decDigits_dig (n:Nat):AllDig (decDigits n):=(decDigits_all n).1
theorem decDigits_ne (n:Nat):decDigits n≠[]:=by
 by_cases h:n<10
 · rw[decDigits_small h];simp
 · rw[decDigits_big h];simp
theorem decDigits_inj {a b:Nat} (h:decDigits a=decDigits b):a=b:=by rw[←dval_decDigits a,h,dval_decDigits]
theorem u8_ext {a b:UInt8} (h:a.toNat=b.toNat):a=b:=UInt8.toNat_inj.1 h
theorem decDigits_head (n:Nat) (h:0<n):∃c r,decDigits n=c::r∧c.toNat≠48:=by
 induction n using Nat.strongRecOn with
 |ind n ih=>
  by_cases h10:n<10
  · rw[decDigits_small h10]
    exact⟨_,[],rfl,by rw[dig_toNat h10];omega⟩
  · rw[decDigits_big h10]
    obtain⟨c,r,e,hc⟩:=ih (n/10) (by omega) (by omega)
    exact⟨c,r++[_],by rw[e];rfl,hc⟩
theorem decDigits_of:∀(l:List UInt8),AllDig l→l≠[]→(l.length=1∨∃c r,l=c::r∧c.toNat≠48)→l=decDigits (dval l):=by
 intro l
 induction l using snocInd with
 |nil=>intro _ h;exact absurd rfl h
 |snoc m c ih=>
  intro h _ h2
  obtain⟨h3,h4⟩:=allDig_append.1 h
  have h5:=(allDig_cons.1 h4).1
  by_cases hm:m=[]
  · subst hm
    have e:dval ([]++[c])=c.toNat-48:=by rw[dval_snoc];simp[dval]
    rw[e,decDigits_small (by omega)]
    simp only[List.nil_append]
    congr 1
    exact u8_ext (by rw[dig_toNat (by omega)];omega)
  · have hlen:0<m.length:=List.length_pos_iff.2 hm
    obtain⟨d,r,e,hd⟩:∃d r,m=d::r∧d.toNat≠48:=by
     rcases h2 with h2|⟨d,r,e,hd⟩
     · rw[List.length_append]at h2;simp only[List.length_cons,List.length_nil]at h2;omega
     · cases m with
       |nil=>exact absurd rfl hm
       |cons d' r'=>
        simp only[List.cons_append,List.cons.injEq]at e
        exact⟨d',r',rfl,by rw[e.1];exact hd⟩
    have hi:=ih h3 hm (.inr ⟨d,r,e,hd⟩)
    have hpos:0<dval m:=by
     rw[e,dval_cons]
     rw[e]at h3
     have:=(allDig_cons.1 h3).1
     have hp:0<10^r.length:=Nat.pow_pos (by decide)
     have:0<(d.toNat-48)*10^r.length:=Nat.mul_pos (by omega) hp
     omega
    rw[dval_snoc,decDigits_big (n:=dval m*10+(c.toNat-48)) (by omega),show(dval m*10+(c.toNat-48))/10=dval m by omega,←hi,show(dval m*10+(c.toNat-48))%10=c.toNat-48 by omega]
    congr 2
    exact u8_ext (by rw[dig_toNat (by omega)];omega)
theorem decDigits_len_le {n k:Nat} (hk:0<k):(decDigits n).length≤k↔n<10^k:=by
 rw[decDigits_length]
 constructor
 · intro h
   exact Nat.lt_of_lt_of_le (lt_pow_nDigits n) (Nat.pow_le_pow_right (by decide) h)
 · intro h
   by_cases hz:n<10
   · rw[nDigits_small hz];exact hk
   · have:∀n,10≤n→10^(nDigits n-1)≤n:=by
      intro n
      induction n using Nat.strongRecOn with
      |ind n ih=>
       intro hn
       rw[nDigits_big (by omega),Nat.add_sub_cancel]
       by_cases h2:n/10<10
       · rw[nDigits_small h2];omega
       · have h3:=ih (n/10) (by omega) (by omega)
         have h4:=nDigits_pos (n/10)
         have:10^nDigits (n/10)=10^(nDigits (n/10)-1)*10:=by rw[←Nat.pow_succ];congr 1;omega
         omega
     have h1:=this n (by omega)
     have h2:nDigits n-1<k:=(Nat.pow_lt_pow_iff_right (a:=10) (by decide)).1 (by omega)
     omega
theorem decDigits_len_pos (n:Nat):0<(decDigits n).length:=List.length_pos_iff.2 (decDigits_ne n)
theorem decDigits_pad {r k:Nat} (h:r<10^k):(decDigits (10^k+r)).drop 1=(decDigits (10^k+r)).drop 1∧dval ((decDigits (10^k+r)).drop 1)=r∧((decDigits (10^k+r)).drop 1).length=k:=by
 have hl:(decDigits (10^k+r)).length=k+1:=by
  rw[decDigits_length]
  exact nDigits_unique k _ (by omega) (by rw[Nat.pow_succ];omega)
 refine⟨rfl,?_,by rw[List.length_drop];omega⟩
 obtain⟨c,l,e⟩:∃c l,decDigits (10^k+r)=c::l:=by
  cases h:decDigits (10^k+r)with
  |nil=>exact absurd h (decDigits_ne _)
  |cons c l=>exact⟨c,l,rfl⟩
 have hd:=dval_decDigits (10^k+r)
 have ha:=decDigits_dig (10^k+r)
 rw[e]at hd ha hl ⊢
 rw[dval_cons]at hd
 simp only[List.length_cons]at hl
 have hlk:l.length=k:=by omega
 have h2:=dval_lt (allDig_cons.1 ha).2
 have h3:=(allDig_cons.1 ha).1
 rw[hlk]at hd h2
 show dval l=r
 have hq:c.toNat-48=1:=by
  rcases Nat.lt_trichotomy (c.toNat-48) 1 with h4|h4|h4
  · have:c.toNat-48=0:=by omega
    rw[this]at hd;omega
  · exact h4
  · have:2*10^k≤(c.toNat-48)*10^k:=Nat.mul_le_mul_right _ h4
    omega
 rw[hq]at hd;omega
theorem decDigits_join {q r k:Nat} (hq:0<q) (h:r<10^k):decDigits q++(decDigits (10^k+r)).drop 1=decDigits (q*10^k+r):=by
 obtain⟨_,h1,h2⟩:=decDigits_pad h
 have ha:AllDig (decDigits q++(decDigits (10^k+r)).drop 1):=allDig_append.2 ⟨decDigits_dig q,allDig_drop (decDigits_dig _) 1⟩
 obtain⟨c,l,e,hc⟩:=decDigits_head q hq
 have h3:=decDigits_of _ ha (by rw[e];simp) (.inr ⟨c,l++_,by rw[e];rfl,hc⟩)
 rw[h3,dval_append,dval_decDigits,h1,h2]
end Go.Proofs.YtcfbjdplhgdpfaaGreatDoor
namespace Go.Proofs.YtcfbjdplhgdpfaaGreatDoor
set_option linter.unusedVariables false
set_option linter.unusedSimpArgs false
open Go.RowKit
theorem take_snoc (s:ByteArray) (k:Nat) (h:k<s.size):s.data.toList.take (k+1)=s.data.toList.take k++[s[k]]:=by
 rw[List.take_succ_eq_append_getElem (by simpa using h)];rfl
theorem dval_take_lt (s:ByteArray) (k:Nat) (hd:AllDig s.data.toList) (h9:s.size≤9) (hk:k<s.size):dval (s.data.toList.take k)<100000000:=by
 have:=dval_lt (allDig_take hd k)
 have hl:(s.data.toList.take k).length≤k:=List.length_take_le _ _
 have:10^(s.data.toList.take k).length≤10^8:=Nat.pow_le_pow_right (by decide) (by omega)
 omega
theorem dig_get (s:ByteArray) (k:Nat) (hd:AllDig s.data.toList) (hk:k<s.size):48≤(s[k]).toNat∧(s[k]).toNat≤57:=hd _ (by
 have:s.data.toList[k]'(by simpa using hk)=s[k]:=rfl
 rw[←this];exact List.getElem_mem _)
theorem readPart_any (s:ByteArray) (w:World) (hs:s.size≤9) (hd:AllDig s.data.toList):
 Calls Tryz.prog 260 #[.string s] w fun e w'=>e=.returned (.int .u32 (dval s.data.toList:Nat))∧w=w':=by
 go_enter Tryz.func260,Tryz.ntmps260
 go_wp2_with fail
 go_loop [3,7] (fun p i=>∃k:Nat,k≤s.size∧i=.int .i64 k∧p=.int .u32 (dval (s.data.toList.take k):Nat)) (fun _ i=>s.size-(intOf i).toNat)
 case atStart=>exact⟨0,Nat.zero_le _,rfl,rfl⟩
 case round=>
  obtain⟨k,hk,rfl,rfl⟩:=hrel
  by_cases hlt:k<s.size
  · have hb:=dval_take_lt s k hd hs hlt
    have hc:=dig_get s k hd hlt
    have HS:=Lib.hid ((congrArg dval (take_snoc s k hlt)).trans (dval_snoc _ _))
    have h0:(0:Int)≤(dval (s.data.toList.take k):Nat):=Int.natCast_nonneg _
    go_wp2_with fail
    go_round
    case rel=>exact⟨k+1,by omega,by go_num,by rw[HS.out];go_num⟩
    case measure=>simp[intOf];omega
  · go_wp2_with fail
    go_ret
    exact⟨ret_int (by rw[List.take_of_length_le (by simp;omega)]),rfl⟩
end Go.Proofs.YtcfbjdplhgdpfaaGreatDoor
namespace Go.Proofs.YtcfbjdplhgdpfaaGreatDoor
set_option linter.unusedVariables false
set_option linter.unusedSimpArgs false
open Go.RowKit
theorem run_mk0 (n:Nat) (z:Int) (hz:z=(n:Int)) (hn:n≤1000000) (w:World):
 (Instr.makeSlice 198 (.int .i64 0) (.int .i64 z)).run Tryz.prog w=.ok (.slice (some ⟨w.heap.size,0,none⟩) 0 n) (w.alloc (.cells (madeCells #[.int .u32 0] n) 165)):=by
 subst hz
 obtain⟨i,hi,hz0,hz1,hz2⟩:=info_parts info32
 have h:=run_make (P:=Tryz.prog) w 198 165 i _ Tryz.underlying198 hi hz0 .i64 .i64 0 n (by omega) (by omega) (by rw[hz2];omega) (by omega)
 simpa[hz1,Value.cells]using h
def vals (P:List Nat):List Value:=P.map fun p=>Value.int .u32 (p:Nat)
structure RsInv (l:List UInt8) (z:Int) (P:List Nat):Prop where
 lo: -9<z
 hi:z≤l.length
 len:9*(P.length:Int)=l.length-z
 ok:Ok P
 eq:val P=dval (l.drop z.toNat)
theorem RsInv.start (l:List UInt8):RsInv l l.length []:=⟨by omega,by omega,by simp,ok_nil,by simp[val,dval]⟩
theorem RsInv.step {l:List UInt8} {z:Int} {P:List Nat} (h:RsInv l z P) (hd:AllDig l) (hz:0<z) {p:List UInt8} (hp:p=(l.take z.toNat).drop (z.toNat-9)):RsInv l (z-9) (P++[dval p])∧p.length≤9∧AllDig p:=by
 have h1:=h.hi
 have hl:p.length≤9:=by rw[hp];simp;omega
 have hdp:AllDig p:=by rw[hp];exact allDig_drop (allDig_take hd _) _
 refine⟨⟨by omega,by omega,by have:=h.len;rw[List.length_append];simp;omega,ok_append.2 ⟨h.ok,ok_cons.2 ⟨?_,ok_nil⟩⟩,?_⟩,hl,hdp⟩
 · have:=dval_lt hdp
   have:10^p.length≤10^9:=Nat.pow_le_pow_right (by decide) hl
   omega
 · have e:l.drop (z-9).toNat=p++l.drop z.toNat:=by
    rw[show(z-9).toNat=z.toNat-9 by omega,hp]
    conv=>lhs;rw[←List.take_append_drop z.toNat l]
    rw[List.drop_append_of_le_length (by rw[List.length_take];omega)]
   rw[e,val_snoc,dval_append,h.eq]
   have e2:(l.drop z.toNat).length=9*P.length:=by rw[List.length_drop];have:=h.len;omega
   rw[e2,Nat.pow_mul,show(10^9:Nat)=1000000000 by rfl,Nat.mul_comm (dval p)];omega
theorem own_sz {w:World} {base:Nat} {v:Value} {P:List Nat} (h:w.ownsRow base 165 1 v P.length (vals P)) (hne:P≠[]):∃g c,v=.slice (some ⟨g,0,none⟩) P.length c∧P.length≤c∧c≤maxLen∧Sz w (some ⟨g,0,none⟩) P:=by
 rcases h.2 with⟨_,h0⟩|⟨g,cap,cur,rfl,_,hg,h1,h2,h3,h4⟩
 · exact absurd (List.eq_nil_of_length_eq_zero h0) hne
 · have hlt:g<w.heap.size:=(Array.getElem?_eq_some_iff.1 hg).1
   refine⟨g,cap,rfl,h1,h2,.inr ⟨g,0,rfl,hlt,fun i hi=> ?_⟩⟩
   rw[cell_of_row w g (0+i) cur 165 (0,0) hg,Nat.zero_add]
   have:(cur.toList.take (P.length*1))[i]?=(vals P)[i]?:=by rw[h4]
   rw[List.getElem?_take_of_lt (by omega)]at this
   rw[←Array.getElem?_toList,this]
   simp[vals,hi]
theorem size_le_of {s:ByteArray} {k:Nat} (h:s.data.toList.length≤k):s.size≤k:=by
 rw[Array.length_toList]at h;exact h
theorem Sz.trim {w:World} {A:Option Addr} {l:List Nat} (h:Sz w A l):Sz w A (Go.Proofs.YtcfbjdplhgdpfaaGreatDoor.trim l):=by
 rcases h with⟨rfl,rfl⟩|⟨b,o,e,hlt,hc⟩
 · exact .inl ⟨rfl,rfl⟩
 · have hle:=trim_le l
   refine .inr ⟨b,o,e,hlt,fun i hi=> ?_⟩
   rw[hc i (by omega)]
   have h3:(Go.Proofs.YtcfbjdplhgdpfaaGreatDoor.trim l)[i]?=(l.take (Go.Proofs.YtcfbjdplhgdpfaaGreatDoor.trim l).length)[i]?:=by rw[←trim_take]
   rw[List.getElem?_take_of_lt hi,List.getElem?_eq_getElem hi,List.getElem?_eq_getElem (by omega)]at h3
   rw[Option.some.inj h3]
theorem extract_toList (s:ByteArray) (a b:Nat):(s.extract a b).data.toList=(s.data.toList.take b).drop a:=by
 rw[ByteArray.data_extract]
 simp[List.extract_eq_take_drop,List.drop_take]
theorem readSize_any (s:ByteArray) (w:World) (hs:s.size≤1000) (h0:0<s.size) (hd:AllDig s.data.toList):
 Calls Tryz.prog 244 #[.string s] w fun e w'=>∃v,e=.returned v∧SzN w' v (dval s.data.toList)∧Below w.heap.size w w':=by
 have hmk:=run_mk0 (s.size/9+1) ((s.size:Int)/9+1) (by omega) (by omega)
 have hls:s.data.toList.length=s.size:=by simp
 have hm0:=fun w=>World.ownsRow_made (base:=w.heap.size) (e:=165) (size:=1) w (madeCells #[.int .u32 0] (s.size/9+1)) (s.size/9+1) (Nat.le_refl _) (by unfold maxLen;omega) (by rw[size_madeCells,Nat.mul_one])
 have hb0:=(Below.refl w.heap.size w).alloc (Nat.le_refl _) (.cells (madeCells #[.int .u32 0] (s.size/9+1)) 165)
 have H0:=Lib.hid (hm0 w)
 clear hm0
 go_enter Tryz.func244,Tryz.ntmps244
 go_wp2_with fail
 have hst:=RsInv.start s.data.toList
 rw[hls]at hst
 have H0':=H0.out
 go_loopw [3,4] (fun v zv wr=>∃(z:Int) (P:List Nat),zv=.int .i64 z∧RsInv s.data.toList z P∧wr.ownsRow w.heap.size 165 1 v P.length (vals P)∧Below w.heap.size w wr) (fun _ zv _=>(intOf zv).toNat)
 case atStart=>exact⟨(s.size:Int),[],rfl,hst,H0',hb0⟩
 case round=>
  clear hst H0' hb0 H0 hmk
  obtain⟨z,P,rfl,hI,hown,hB⟩:=hrel
  have hz1:=hI.lo
  have hz2:=hI.hi
  rw[hls]at hz2
  by_cases hz:0<z
  · by_cases h9:9≤z
    · have hsz:(s.extract (z-9).toNat z.toNat).size≤9∧AllDig (s.extract (z-9).toNat z.toNat).data.toList∧RsInv s.data.toList (z-9) (P++[dval (s.extract (z-9).toNat z.toNat).data.toList]):=by
       obtain⟨x1,x2,x3⟩:=hI.step hd hz (p:=(s.extract (z-9).toNat z.toNat).data.toList) (by rw[extract_toList];rw[show(z-9).toNat=z.toNat-9 by omega])
       exact⟨size_le_of x2,x3,x1⟩
      obtain⟨hsz,hdp,hst⟩:=hsz
      have hlen1:(P++[dval (s.extract (z-9).toNat z.toNat).data.toList]).length=P.length+1:=by simp
      have hPl:9*P.length≤s.size:=by have:=hI.len;rw[hls]at this;omega
      go_wp2_with fail
      refine(readPart_any _ _ hsz hdp).mono ?_
      rintro e w1 ⟨rfl,rfl⟩
      generalize dval (s.extract (z-9).toNat z.toNat).data.toList=d at hst hlen1 ⊢
      obtain⟨i0,hi,hz0,hz1',hz2'⟩:=info_parts info32
      have H1:=Lib.hid (And.intro hlen1 hst)
      clear hI hst hlen1 hsz hdp hd
      go_wp2_with (at_builtin;refine wpList_append_own _ rfl (.tmp 16) (.tmp 24) 198 rfl w.heap.size 165 i0 (.int .u32 0) 1 4 Tryz.underlying198 hi hz0 hz1' hz2' rfl (by decide) _ _ _ rfl (hown.alloc _) ⟨wr.heap.size,0,none⟩ 1 1 [.int .u32 (d:Nat)] rfl rfl ?c1 ?c2 ?c3 ?c4 ?c5 ?_)
      case c1=>intro j u hj;rcases j with _|j
               · simp at hj;subst hj;exact cell_new1 _ _
               · simp at hj
      case c2=>simp[Value.oneCell']
      case c3=>unfold maxLen;omega
      case c4=>omega
      case c5=>have:=hB.size;simp;omega
      intro v' w1 hown' hgrow _
      have hB':Below w.heap.size w w1:=(hB.alloc hB.size _).grown hgrow (by have:=hB.size;simp;omega) (fun k hk=>(hown.lt k hk).1)
      clear hgrow hown hB
      go_wp2_with fail
      go_roundw
      case rel=>exact⟨z-9,_,rfl,H1.out.2,by rw[H1.out.1];simpa[vals]using hown',hB'⟩
      case measure=>simp[intOf];omega
    · have hsz:(s.extract 0 z.toNat).size≤9∧AllDig (s.extract 0 z.toNat).data.toList∧RsInv s.data.toList (z-9) (P++[dval (s.extract 0 z.toNat).data.toList]):=by
       obtain⟨x1,x2,x3⟩:=hI.step hd hz (p:=(s.extract 0 z.toNat).data.toList) (by rw[extract_toList];rw[show z.toNat-9=0 by omega])
       exact⟨size_le_of x2,x3,x1⟩
      obtain⟨hsz,hdp,hst⟩:=hsz
      have hlen1:(P++[dval (s.extract 0 z.toNat).data.toList]).length=P.length+1:=by simp
      have hPl:9*P.length≤s.size:=by have:=hI.len;rw[hls]at this;omega
      go_wp2_with fail
      refine(readPart_any _ _ hsz hdp).mono ?_
      rintro e w1 ⟨rfl,rfl⟩
      generalize dval (s.extract 0 z.toNat).data.toList=d at hst hlen1 ⊢
      obtain⟨i0,hi,hz0,hz1',hz2'⟩:=info_parts info32
      have H1:=Lib.hid (And.intro hlen1 hst)
      clear hI hst hlen1 hsz hdp hd
      go_wp2_with (at_builtin;refine wpList_append_own _ rfl (.tmp 16) (.tmp 24) 198 rfl w.heap.size 165 i0 (.int .u32 0) 1 4 Tryz.underlying198 hi hz0 hz1' hz2' rfl (by decide) _ _ _ rfl (hown.alloc _) ⟨wr.heap.size,0,none⟩ 1 1 [.int .u32 (d:Nat)] rfl rfl ?c1 ?c2 ?c3 ?c4 ?c5 ?_)
      case c1=>intro j u hj;rcases j with _|j
               · simp at hj;subst hj;exact cell_new1 _ _
               · simp at hj
      case c2=>simp[Value.oneCell']
      case c3=>unfold maxLen;omega
      case c4=>omega
      case c5=>have:=hB.size;simp;omega
      intro v' w1 hown' hgrow _
      have hB':Below w.heap.size w w1:=(hB.alloc hB.size _).grown hgrow (by have:=hB.size;simp;omega) (fun k hk=>(hown.lt k hk).1)
      clear hgrow hown hB
      go_wp2_with fail
      go_roundw
      case rel=>exact⟨z-9,_,rfl,H1.out.2,by rw[H1.out.1];simpa[vals]using hown',hB'⟩
      case measure=>simp[intOf];omega
  · have hne:P≠[]:=by
     rintro rfl
     have:=hI.len
     rw[hls]at this
     simp at this
     omega
    obtain⟨g,c,hv,hc1,hc2,hS⟩:=own_sz hown hne
    go_wp2_with fail
    refine(trimmed_any _ P c _ hS hc1 hc2).mono ?_
    rintro e w1 ⟨rfl,rfl⟩
    go_wp2_with fail
    go_ret
    have hval:=hI.eq
    rw[show z.toNat=0 by omega,List.drop_zero]at hval
    exact⟨_,rfl,⟨_,trim P,c,rfl,hS.trim,ok_trim hI.ok,norm_trim P,by rw[val_trim,hval]⟩,hB⟩
end Go.Proofs.YtcfbjdplhgdpfaaGreatDoor

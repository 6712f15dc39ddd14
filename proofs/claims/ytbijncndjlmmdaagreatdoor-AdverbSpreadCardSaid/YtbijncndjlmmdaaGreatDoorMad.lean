import Derived.Test.YtbijncndjlmmdaaGreatDoorMac
set_option maxHeartbeats 1600000
set_option maxRecDepth 10000
namespace Go.Proofs.YtbijncndjlmmdaaGreatDoor
set_option linter.unusedVariables false
set_option linter.unusedSimpArgs false
open Go.RowKit
theorem run_mk0 (n:Nat) (z:Int) (hz:z=(n:Int)) (hn:n≤1000000) (w:World):
 (Instr.makeSlice 223 (.int .i64 0) (.int .i64 z)).run Tryz.prog w=.ok (.slice (some ⟨w.heap.size,0,none⟩) 0 n) (w.alloc (.cells (madeCells #[.int .u32 0] n) 195)):=by
 subst hz
 obtain⟨i,hi,hz0,hz1,hz2⟩:=info_parts info32
 have h:=run_make (P:=Tryz.prog) w 223 195 i _ Tryz.underlying223 hi hz0 .i64 .i64 0 n (by omega) (by omega) (by rw[hz2];omega) (by omega)
 simpa[hz1,Value.cells]using h
def vals (P:List Nat):List Value:=P.map fun p=>Value.int .u32 (p:Nat)
structure RsInv (l:List UInt8) (z:Int) (P:List Nat):Prop where
 lo: -9<z
 hi:z≤l.length
 len:9*(P.length:Int)=l.length-z
 ok:Ok P
 eq:val P=dval (l.drop z.toNat)
theorem RsInv.start (l:List UInt8):RsInv l l.length []:=⟨by omega,by omega,by simp,ok_nil,by simp[val,dval]⟩
theorem RsInv.step {l:List UInt8} {z:Int} {P:List Nat} (h:RsInv l z P) (hd:AllDig l) (hz:0<z) {p:List UInt8} (hp:p=(l.take z.toNat).drop (z.toNat-9)):RsInv l (z-9) (P++[dval p])∧p.length≤9∧AllDig p:=by
 have h1:=h.hi
 have hl:p.length≤9:=by rw[hp];simp;omega
 have hdp:AllDig p:=by rw[hp];exact allDig_drop (allDig_take hd _) _
 refine⟨⟨by omega,by omega,by have:=h.len;rw[List.length_append];simp;omega,ok_append.2 ⟨h.ok,ok_cons.2 ⟨?_,ok_nil⟩⟩,?_⟩,hl,hdp⟩
 · have:=dval_lt hdp
   have:10^p.length≤10^9:=Nat.pow_le_pow_right (by decide) hl
   omega
 · have e:l.drop (z-9).toNat=p++l.drop z.toNat:=by
    rw[show(z-9).toNat=z.toNat-9 by omega,hp]
    conv=>lhs;rw[←List.take_append_drop z.toNat l]
    rw[List.drop_append_of_le_length (by rw[List.length_take];omega)]
   rw[e,val_snoc,dval_append,h.eq]
   have e2:(l.drop z.toNat).length=9*P.length:=by rw[List.length_drop];have:=h.len;omega
   rw[e2,Nat.pow_mul,show(10^9:Nat)=1000000000 by rfl,Nat.mul_comm (dval p)];omega
theorem own_sz {w:World} {base:Nat} {v:Value} {P:List Nat} (h:w.ownsRow base 195 1 v P.length (vals P)) (hne:P≠[]):∃g c,v=.slice (some ⟨g,0,none⟩) P.length c∧P.length≤c∧c≤maxLen∧Sz w (some ⟨g,0,none⟩) P:=by
 rcases h.2 with⟨_,h0⟩|⟨g,cap,cur,rfl,_,hg,h1,h2,h3,h4⟩
 · exact absurd (List.eq_nil_of_length_eq_zero h0) hne
 · have hlt:g<w.heap.size:=(Array.getElem?_eq_some_iff.1 hg).1
   refine⟨g,cap,rfl,h1,h2,.inr ⟨g,0,rfl,hlt,fun i hi=> ?_⟩⟩
   rw[cell_of_row w g (0+i) cur 195 (0,0) hg,Nat.zero_add]
   have:(cur.toList.take (P.length*1))[i]?=(vals P)[i]?:=by rw[h4]
   rw[List.getElem?_take_of_lt (by omega)]at this
   rw[←Array.getElem?_toList,this]
   simp[vals,hi]
theorem size_le_of {s:ByteArray} {k:Nat} (h:s.data.toList.length≤k):s.size≤k:=by
 rw[Array.length_toList]at h;exact h
theorem Sz.trim {w:World} {A:Option Addr} {l:List Nat} (h:Sz w A l):Sz w A (Go.Proofs.YtbijncndjlmmdaaGreatDoor.trim l):=by
 rcases h with⟨rfl,rfl⟩|⟨b,o,e,hlt,hc⟩
 · exact .inl ⟨rfl,rfl⟩
 · have hle:=trim_le l
   refine .inr ⟨b,o,e,hlt,fun i hi=> ?_⟩
   rw[hc i (by omega)]
   have h3:(Go.Proofs.YtbijncndjlmmdaaGreatDoor.trim l)[i]?=(l.take (Go.Proofs.YtbijncndjlmmdaaGreatDoor.trim l).length)[i]?:=by rw[←trim_take]
   rw[List.getElem?_take_of_lt hi,List.getElem?_eq_getElem hi,List.getElem?_eq_getElem (by omega)]at h3
   rw[Option.some.inj h3]
theorem extract_toList (s:ByteArray) (a b:Nat):(s.extract a b).data.toList=(s.data.toList.take b).drop a:=by
 rw[ByteArray.data_extract]
 simp[List.extract_eq_take_drop,List.drop_take]
theorem readSize_any (s:ByteArray) (w:World) (hs:s.size≤1000) (h0:0<s.size) (hd:AllDig s.data.toList):
 Calls Tryz.prog 288 #[.string s] w fun e w'=>∃v,e=.returned v∧SzN w' v (dval s.data.toList)∧Below w.heap.size w w':=by
 have hmk:=run_mk0 (s.size/9+1) ((s.size:Int)/9+1) (by omega) (by omega)
 have hls:s.data.toList.length=s.size:=by simp
 have hm0:=fun w=>World.ownsRow_made (base:=w.heap.size) (e:=195) (size:=1) w (madeCells #[.int .u32 0] (s.size/9+1)) (s.size/9+1) (Nat.le_refl _) (by unfold maxLen;omega) (by rw[size_madeCells,Nat.mul_one])
 have hb0:=(Below.refl w.heap.size w).alloc (Nat.le_refl _) (.cells (madeCells #[.int .u32 0] (s.size/9+1)) 195)
 have H0:=Lib.hid (hm0 w)
 clear hm0
 go_enter Tryz.func288,Tryz.ntmps288
 go_wp2_with fail
 have hst:=RsInv.start s.data.toList
 rw[hls]at hst
 have H0':=H0.out
 go_loopw [3,4] (fun v zv wr=>∃(z:Int) (P:List Nat),zv=.int .i64 z∧RsInv s.data.toList z P∧wr.ownsRow w.heap.size 195 1 v P.length (vals P)∧Below w.heap.size w wr) (fun _ zv _=>(intOf zv).toNat)
 case atStart=>exact⟨(s.size:Int),[],rfl,hst,H0',hb0⟩
 case round=>
  clear hst H0' hb0 H0 hmk
  obtain⟨z,P,rfl,hI,hown,hB⟩:=hrel
  have hz1:=hI.lo
  have hz2:=hI.hi
  rw[hls]at hz2
  by_cases hz:0<z
  · by_cases h9:9≤z
    · have hsz:(s.extract (z-9).toNat z.toNat).size≤9∧AllDig (s.extract (z-9).toNat z.toNat).data.toList∧RsInv s.data.toList (z-9) (P++[dval (s.extract (z-9).toNat z.toNat).data.toList]):=by
       obtain⟨x1,x2,x3⟩:=hI.step hd hz (p:=(s.extract (z-9).toNat z.toNat).data.toList) (by rw[extract_toList];rw[show(z-9).toNat=z.toNat-9 by omega])
       exact⟨size_le_of x2,x3,x1⟩
      obtain⟨hsz,hdp,hst⟩:=hsz
      have hlen1:(P++[dval (s.extract (z-9).toNat z.toNat).data.toList]).length=P.length+1:=by simp
      have hPl:9*P.length≤s.size:=by have:=hI.len;rw[hls]at this;omega
      go_wp2_with fail
      refine(readPart_any _ _ hsz hdp).mono ?_
      rintro e w1 ⟨rfl,rfl⟩
      generalize dval (s.extract (z-9).toNat z.toNat).data.toList=d at hst hlen1 ⊢
      obtain⟨i0,hi,hz0,hz1',hz2'⟩:=info_parts info32
      have H1:=Lib.hid (And.intro hlen1 hst)
      clear hI hst hlen1 hsz hdp hd
      go_wp2_with (at_builtin;refine wpList_append_own _ rfl (.tmp 16) (.tmp 24) 223 rfl w.heap.size 195 i0 (.int .u32 0) 1 4 Tryz.underlying223 hi hz0 hz1' hz2' rfl (by decide) _ _ _ rfl (hown.alloc _) ⟨wr.heap.size,0,none⟩ 1 1 [.int .u32 (d:Nat)] rfl rfl ?c1 ?c2 ?c3 ?c4 ?c5 ?_)
      case c1=>intro j u hj;rcases j with _|j
               · simp at hj;subst hj;exact cell_new1 _ _
               · simp at hj
      case c2=>simp[Value.oneCell']
      case c3=>unfold maxLen;omega
      case c4=>omega
      case c5=>have:=hB.size;simp;omega
      intro v' w1 hown' hgrow _
      have hB':Below w.heap.size w w1:=(hB.alloc hB.size _).grown hgrow (by have:=hB.size;simp;omega) (fun k hk=>(hown.lt k hk).1)
      clear hgrow hown hB
      go_wp2_with fail
      go_roundw
      case rel=>exact⟨z-9,_,rfl,H1.out.2,by rw[H1.out.1];simpa[vals]using hown',hB'⟩
      case measure=>simp[intOf];omega
    · have hsz:(s.extract 0 z.toNat).size≤9∧AllDig (s.extract 0 z.toNat).data.toList∧RsInv s.data.toList (z-9) (P++[dval (s.extract 0 z.toNat).data.toList]):=by
       obtain⟨x1,x2,x3⟩:=hI.step hd hz (p:=(s.extract 0 z.toNat).data.toList) (by rw[extract_toList];rw[show z.toNat-9=0 by omega])
       exact⟨size_le_of x2,x3,x1⟩
      obtain⟨hsz,hdp,hst⟩:=hsz
      have hlen1:(P++[dval (s.extract 0 z.toNat).data.toList]).length=P.length+1:=by simp
      have hPl:9*P.length≤s.size:=by have:=hI.len;rw[hls]at this;omega
      go_wp2_with fail
      refine(readPart_any _ _ hsz hdp).mono ?_
      rintro e w1 ⟨rfl,rfl⟩
      generalize dval (s.extract 0 z.toNat).data.toList=d at hst hlen1 ⊢
      obtain⟨i0,hi,hz0,hz1',hz2'⟩:=info_parts info32
      have H1:=Lib.hid (And.intro hlen1 hst)
      clear hI hst hlen1 hsz hdp hd
      go_wp2_with (at_builtin;refine wpList_append_own _ rfl (.tmp 16) (.tmp 24) 223 rfl w.heap.size 195 i0 (.int .u32 0) 1 4 Tryz.underlying223 hi hz0 hz1' hz2' rfl (by decide) _ _ _ rfl (hown.alloc _) ⟨wr.heap.size,0,none⟩ 1 1 [.int .u32 (d:Nat)] rfl rfl ?c1 ?c2 ?c3 ?c4 ?c5 ?_)
      case c1=>intro j u hj;rcases j with _|j
               · simp at hj;subst hj;exact cell_new1 _ _
               · simp at hj
      case c2=>simp[Value.oneCell']
      case c3=>unfold maxLen;omega
      case c4=>omega
      case c5=>have:=hB.size;simp;omega
      intro v' w1 hown' hgrow _
      have hB':Below w.heap.size w w1:=(hB.alloc hB.size _).grown hgrow (by have:=hB.size;simp;omega) (fun k hk=>(hown.lt k hk).1)
      clear hgrow hown hB
      go_wp2_with fail
      go_roundw
      case rel=>exact⟨z-9,_,rfl,H1.out.2,by rw[H1.out.1];simpa[vals]using hown',hB'⟩
      case measure=>simp[intOf];omega
  · have hne:P≠[]:=by
     rintro rfl
     have:=hI.len
     rw[hls]at this
     simp at this
     omega
    obtain⟨g,c,hv,hc1,hc2,hS⟩:=own_sz hown hne
    go_wp2_with fail
    refine(trimmed_any _ P c _ hS hc1 hc2).mono ?_
    rintro e w1 ⟨rfl,rfl⟩
    go_wp2_with fail
    go_ret
    have hval:=hI.eq
    rw[show z.toNat=0 by omega,List.drop_zero]at hval
    exact⟨_,rfl,⟨_,trim P,c,rfl,hS.trim,ok_trim hI.ok,norm_trim P,by rw[val_trim,hval]⟩,hB⟩
end Go.Proofs.YtbijncndjlmmdaaGreatDoor

import Derived.Test.YtcfbjdplhgdpfaaGreatDoorTac
set_option maxHeartbeats 1600000
set_option maxRecDepth 10000
namespace Go.Proofs.YtcfbjdplhgdpfaaGreatDoor
set_option linter.unusedVariables false
set_option linter.unusedSimpArgs false
abbrev yO1:=@List.drop_append_of_le_length
abbrev yV0:=@Array.getElem?_toList
abbrev yJ0:=@Go.wpList_append_own
abbrev yB0:=@Go.cell_of_row
abbrev zZ0:=@Array.getElem?_eq_some_iff
abbrev zF:=@Go.info_parts
open Go.RowKit
theorem zF7 (n:Nat) (z:Int) (hz:z=(n:Int)) (hn:n≤1000000) (w:World):
 (Instr.makeSlice 198 (.int .i64 0) (.int .i64 z)).run Tryz.prog w=.ok (.slice (some ⟨w.heap.size,0,none⟩) 0 n) (w.alloc (.cells (madeCells #[.int .u32 0] n) 165)):=by
 subst hz;obtain⟨i,hi,hz0,hz1,hz2⟩:=zF yGl;have h:=run_make (P:=Tryz.prog) w 198 165 i _ Tryz.underlying198 hi hz0 .i64 .i64 0 n yEn yEn (by rw[hz2];omega) yEn;simpa[hz1,Value.cells]using h
def zG7 (P:List Nat):List Value:=P.map fun p=>Value.int .u32 (p:Nat)
structure RsInv (l:List UInt8) (z:Int) (P:List Nat):Prop where
 lo: -9<z
 hi:z≤l.length
 len:9*(P.length:Int)=l.length-z
 ok:Ok P
 eq:val P=xEb (l.drop z.toNat)
theorem RsInv.start (l:List UInt8):RsInv l l.length []:=⟨by omega,by omega,by simp,yQa,by simp[val,xEb]⟩
theorem RsInv.step {l:List UInt8} {z:Int} {P:List Nat} (h:RsInv l z P) (hd:xFb l) (hz:0<z) {p:List UInt8} (hp:p=(l.take z.toNat).drop (z.toNat-9)):RsInv l (z-9) (P++[xEb p])∧p.length≤9∧xFb p:=by
 have h1:=h.hi;have hl:p.length≤9:=by rw[hp];simp;omega
 have hdp:xFb p:=by rw[hp];exact xNb (xMb hd _) _
 refine⟨⟨by omega,by omega,by have:=h.len;rw[zC0];simp;omega,yPa.2 ⟨h.ok,yOa.2 ⟨?_,yQa⟩⟩,?_⟩,hl,hdp⟩
 · have:=xOb hdp
   have:10^p.length≤10^9:=yM1 yCn hl;omega
 · have e:l.drop (z-9).toNat=p++l.drop z.toNat:=by
    rw[show(z-9).toNat=z.toNat-9 by omega,hp]
    conv=>lhs;rw[←yN1 z.toNat l]
    rw[yO1 (by rw[xP];omega)]
   rw[e,yNa,xHb,h.eq];have e2:(l.drop z.toNat).length=9*P.length:=by rw[xB0];have:=h.len;omega
   rw[e2,Nat.pow_mul,show(10^9:Nat)=1000000000 by rfl,yP1 (xEb p)];omega
theorem zH7 {w:World} {base:Nat} {v:Value} {P:List Nat} (h:w.ownsRow base 165 1 v P.length (zG7 P)) (hne:P≠[]):∃g c,v=.slice (some ⟨g,0,none⟩) P.length c∧P.length≤c∧c≤maxLen∧Sz w (some ⟨g,0,none⟩) P:=by
 rcases h.2 with⟨_,h0⟩|⟨g,cap,cur,rfl,_,hg,h1,h2,h3,h4⟩
 · exact absurd (yR1 h0) hne
 · have hlt:g<w.heap.size:=(zZ0.1 hg).1
   refine⟨g,cap,rfl,h1,h2,.inr ⟨g,0,rfl,hlt,fun i hi=> ?_⟩⟩;rw[yB0 w g (0+i) cur 165 (0,0) hg,zP0];have:(cur.toList.take (P.length*1))[i]?=(zG7 P)[i]?:=by rw[h4]
   rw[yU0 yEn]at this;rw[←yV0,this];simp[zG7,hi]
theorem zI7 {s:ByteArray} {k:Nat} (h:s.data.toList.length≤k):s.size≤k:=by
 rw[Array.length_toList]at h;exact h
theorem Sz.trim {w:World} {A:Option Addr} {l:List Nat} (h:Sz w A l):Sz w A (Go.Proofs.YtcfbjdplhgdpfaaGreatDoor.trim l):=by
 rcases h with⟨rfl,rfl⟩|⟨b,o,e,hlt,hc⟩
 · exact .inl ⟨rfl,rfl⟩
 · have hle:=yZa l
   refine .inr ⟨b,o,e,hlt,fun i hi=> ?_⟩;rw[hc i yEn];have h3:(Go.Proofs.YtcfbjdplhgdpfaaGreatDoor.trim l)[i]?=(l.take (Go.Proofs.YtcfbjdplhgdpfaaGreatDoor.trim l).length)[i]?:=by rw[←xAa]
   rw[yU0 hi,yM hi,yM yEn]at h3;rw[zX1 h3]
theorem zJ7 (s:ByteArray) (a b:Nat):(s.extract a b).data.toList=(s.data.toList.take b).drop a:=by
 rw[ByteArray.data_extract];simp[List.extract_eq_take_drop,List.drop_take]
theorem zK7 (s:ByteArray) (w:World) (hs:s.size≤1000) (h0:0<s.size) (hd:xFb s.data.toList):
 Calls Tryz.prog 244 #[.string s] w fun e w'=>∃v,e=.returned v∧SzN w' v (xEb s.data.toList)∧Below w.heap.size w w':=by
 have hmk:=zF7 (s.size/9+1) ((s.size:Int)/9+1) yEn yEn;have hls:s.data.toList.length=s.size:=by simp
 have hm0:=fun w=>World.ownsRow_made (base:=w.heap.size) (e:=165) (size:=1) w (madeCells #[.int .u32 0] (s.size/9+1)) (s.size/9+1) (zR _) xXm (by rw[size_madeCells,yS0]);have hb0:=(zI w.heap.size w).alloc (zR _) (.cells (madeCells #[.int .u32 0] (s.size/9+1)) 165);have H0:=zC (hm0 w);clear hm0;go_in;go_wp2_with fail;have hst:=RsInv.start s.data.toList;rw[hls]at hst;have H0':=H0.out;go_loopw [3,4] (fun v zv wr=>∃(z:Int) (P:List Nat),zv=.int .i64 z∧RsInv s.data.toList z P∧wr.ownsRow w.heap.size 165 1 v P.length (zG7 P)∧Below w.heap.size w wr) (fun _ zv _=>(intOf zv).toNat)
 case atStart=>exact⟨(s.size:Int),[],rfl,hst,H0',hb0⟩
 case round=>
  clear hst H0' hb0 H0 hmk;obtain⟨z,P,rfl,hI,hown,hB⟩:=hrel;have hz1:=hI.lo;have hz2:=hI.hi;rw[hls]at hz2;by_cases hz:0<z
  · by_cases h9:9≤z
    · have hsz:(s.extract (z-9).toNat z.toNat).size≤9∧xFb (s.extract (z-9).toNat z.toNat).data.toList∧RsInv s.data.toList (z-9) (P++[xEb (s.extract (z-9).toNat z.toNat).data.toList]):=by
       obtain⟨x1,x2,x3⟩:=hI.step hd hz (p:=(s.extract (z-9).toNat z.toNat).data.toList) (by rw[zJ7];rw[show(z-9).toNat=z.toNat-9 by omega]);exact⟨zI7 x2,x3,x1⟩
      obtain⟨hsz,hdp,hst⟩:=hsz;have hlen1:(P++[xEb (s.extract (z-9).toNat z.toNat).data.toList]).length=P.length+1:=by simp
      have hPl:9*P.length≤s.size:=by have:=hI.len;rw[hls]at this;omega
      go_wp2_with fail;refine(zHc _ _ hsz hdp).mono ?_;rintro e w1 ⟨rfl,rfl⟩;generalize xEb (s.extract (z-9).toNat z.toNat).data.toList=d at hst hlen1 ⊢;obtain⟨i0,hi,hz0,hz1',hz2'⟩:=zF yGl;have H1:=zC (And.intro hlen1 hst);clear hI hst hlen1 hsz hdp hd;go_wp2_with (at_builtin;refine yJ0 _ rfl (.tmp 16) (.tmp 24) 198 rfl w.heap.size 165 i0 (.int .u32 0) 1 4 Tryz.underlying198 hi hz0 hz1' hz2' rfl yCn _ _ _ rfl (hown.alloc _) ⟨wr.heap.size,0,none⟩ 1 1 [.int .u32 (d:Nat)] rfl rfl ?c1 ?c2 ?c3 ?c4 ?c5 ?_)
      case c1=>intro j u hj;rcases j with _|j
               · simp at hj;subst hj;exact yYb _ _
               · simp at hj
      case c2=>simp[Value.oneCell']
      case c3=>unfold maxLen;omega
      case c4=>omega
      case c5=>have:=hB.size;simp;omega
      intro v' w1 hown' hgrow _;have hB':Below w.heap.size w w1:=(hB.alloc hB.size _).grown hgrow (by have:=hB.size;simp;omega) (fun k hk=>(hown.lt k hk).1);clear hgrow hown hB;go_wp2_with fail;go_roundw
      case rel=>exact⟨z-9,_,rfl,H1.out.2,by rw[H1.out.1];simpa[zG7]using hown',hB'⟩
      case measure=>simp[intOf];omega
    · have hsz:(s.extract 0 z.toNat).size≤9∧xFb (s.extract 0 z.toNat).data.toList∧RsInv s.data.toList (z-9) (P++[xEb (s.extract 0 z.toNat).data.toList]):=by
       obtain⟨x1,x2,x3⟩:=hI.step hd hz (p:=(s.extract 0 z.toNat).data.toList) (by rw[zJ7];rw[show z.toNat-9=0 by omega]);exact⟨zI7 x2,x3,x1⟩
      obtain⟨hsz,hdp,hst⟩:=hsz;have hlen1:(P++[xEb (s.extract 0 z.toNat).data.toList]).length=P.length+1:=by simp
      have hPl:9*P.length≤s.size:=by have:=hI.len;rw[hls]at this;omega
      go_wp2_with fail;refine(zHc _ _ hsz hdp).mono ?_;rintro e w1 ⟨rfl,rfl⟩;generalize xEb (s.extract 0 z.toNat).data.toList=d at hst hlen1 ⊢;obtain⟨i0,hi,hz0,hz1',hz2'⟩:=zF yGl;have H1:=zC (And.intro hlen1 hst);clear hI hst hlen1 hsz hdp hd;go_wp2_with (at_builtin;refine yJ0 _ rfl (.tmp 16) (.tmp 24) 198 rfl w.heap.size 165 i0 (.int .u32 0) 1 4 Tryz.underlying198 hi hz0 hz1' hz2' rfl yCn _ _ _ rfl (hown.alloc _) ⟨wr.heap.size,0,none⟩ 1 1 [.int .u32 (d:Nat)] rfl rfl ?c1 ?c2 ?c3 ?c4 ?c5 ?_)
      case c1=>intro j u hj;rcases j with _|j
               · simp at hj;subst hj;exact yYb _ _
               · simp at hj
      case c2=>simp[Value.oneCell']
      case c3=>unfold maxLen;omega
      case c4=>omega
      case c5=>have:=hB.size;simp;omega
      intro v' w1 hown' hgrow _;have hB':Below w.heap.size w w1:=(hB.alloc hB.size _).grown hgrow (by have:=hB.size;simp;omega) (fun k hk=>(hown.lt k hk).1);clear hgrow hown hB;go_wp2_with fail;go_roundw
      case rel=>exact⟨z-9,_,rfl,H1.out.2,by rw[H1.out.1];simpa[zG7]using hown',hB'⟩
      case measure=>simp[intOf];omega
  · have hne:P≠[]:=by
     rintro rfl;have:=hI.len;rw[hls]at this;simp at this
     omega
    obtain⟨g,c,hv,hc1,hc2,hS⟩:=zH7 hown hne;go_wp2_with fail;refine(xSa _ P c _ hS hc1 hc2).mono ?_;rintro e w1 ⟨rfl,rfl⟩;go_wp2_with fail;go_ret;have hval:=hI.eq;rw[show z.toNat=0 by omega,yS1]at hval;exact⟨_,rfl,⟨_,trim P,c,rfl,hS.trim,xDa hI.ok,xCa P,by rw[yYa,hval]⟩,hB⟩
end Go.Proofs.YtcfbjdplhgdpfaaGreatDoor

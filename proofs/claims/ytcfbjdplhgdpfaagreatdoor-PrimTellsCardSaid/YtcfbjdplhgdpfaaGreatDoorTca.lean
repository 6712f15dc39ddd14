import Derived.Test.YtcfbjdplhgdpfaaGreatDoorTbz
import Derived.Lib.LaidU8
set_option maxRecDepth 10000
namespace Go.Proofs.YtcfbjdplhgdpfaaGreatDoor
set_option linter.unusedVariables false
set_option linter.unusedSimpArgs false
abbrev xR2:=@Go.laidMet.tail
section
open Go.ChangeShapes Go.WideShapes Go.ChangeAt Go.RowKit
theorem gDy:Tryz.prog.globalNamed "reredos/scalar.dyads" =some 1:=by kernel_rfl
theorem tDy:(Tryz.prog.globals[1]?).map (·.type)=some 119:=by kernel_rfl
theorem gMo:Tryz.prog.globalNamed "reredos/scalar.monads" =some 0:=by kernel_rfl
theorem tMo:(Tryz.prog.globals[0]?).map (·.type)=some 104:=by kernel_rfl
section
variable {W:World} {fuel:Nat} {cs:List Value} {p:List MemPlace} {n:Nat}
theorem zYk {t e:TypeId} {ds:List (DataW Unit)} (ht:Tryz.prog.underlying t=some (.array n e)) (h:DataW.trod (fun _=>()) Tryz.prog W 0 (fun _=>true) false fuel t cs=some (.agg ds,p)):cs.length=Tryz.prog.cellsOf t:=by
 cases fuel with
 |zero=>simp[DataW.trod]at h
 |succ fuel=>
  simp only[DataW.trod,ht]at h;split at h
  · rename_i hl
    exact hl
  · cases h
theorem zZk {s:List UInt8} (h:DataW.trod (fun _=>()) Tryz.prog W 0 (fun _=>true) false fuel 9 cs=some (.lit (.string s),p)):cs=[.string ⟨s.toArray⟩]:=by
 obtain⟨v,rfl,hx,_⟩:=DataW.trod_string Tryz.underlying9 h;injection hx with hx
 injection hx with hx
 injection hx with hx
 subst hx;rfl
theorem yAk {b:Bool} (h:DataW.trod (fun _=>()) Tryz.prog W 0 (fun _=>true) false fuel 4 cs=some (.lit (.bool b),p)):cs=[.bool b]:=by
 obtain⟨v,rfl,hx⟩:=DataW.trod_bool Tryz.underlying4 h;injection hx with hx
 injection hx with hx
 injection hx with hx
 rw[hx]
theorem yBk {l:List Value} {x y z:Value} (h0:(l.drop 0).take 1=[x]) (h1:(l.drop 1).take 1=[y]) (h2:(l.drop 2).take 1=[z]) (hl:l.length=3):l=[x,y,z]:=by
 match l,hl with
 |[a,b,c],_=>simp_all
theorem yCk {a c:List UInt8} {b:Bool} (h:DataW.trod (fun _=>()) Tryz.prog W 0 (fun _=>true) false fuel 89 cs=some (.agg [.lit (.string a),.lit (.bool b),.lit (.string c)],p)):cs=[.string ⟨a.toArray⟩,.bool b,.string ⟨c.toArray⟩]:=by
 have hs:Tryz.prog.cellsOf 9=1:=by kernel_rfl
 have hb:Tryz.prog.cellsOf 4=1:=by kernel_rfl
 have hg:Tryz.prog.cellsOf 89=3:=by kernel_rfl
 obtain⟨xs,m,rfl,hx,hl,hxl,hall⟩:=DataW.trod_struct Tryz.underlying89 h;rw[hg]at hl;match xs,hxl with
 |[y0,y1,y2],_=>
  injection hx with hx _
  injection hx with hx
  simp only[zU1,zV1]at hx;injection hx with e0 hx
  injection hx with e1 hx
  injection hx with e2 _
  have h0:DataW.trod (fun _=>()) Tryz.prog W 0 (fun _=>true) false m 9 ((cs.drop 0).take (Tryz.prog.cellsOf 9))=some y0:=hall 0 _ rfl;have h1:DataW.trod (fun _=>()) Tryz.prog W 0 (fun _=>true) false m 4 ((cs.drop 1).take (Tryz.prog.cellsOf 4))=some y1:=hall 1 _ rfl;have h2:DataW.trod (fun _=>()) Tryz.prog W 0 (fun _=>true) false m 9 ((cs.drop 2).take (Tryz.prog.cellsOf 9))=some y2:=hall 2 _ rfl;rw[hs]at h0 h2;rw[hb]at h1;obtain⟨d0,q0⟩:=y0;obtain⟨d1,q1⟩:=y1;obtain⟨d2,q2⟩:=y2;simp only at e0 e1 e2;subst e0 e1 e2;exact yBk (zZk h0) (yAk h1) (zZk h2) hl
end
theorem yDk {l r:List Value} {n k:Nat} (hk:0<k) (h1:l.length=n*k) (h2:r.length=n*k) (h:∀i,i<n→(l.drop (i*k)).take k=(r.drop (i*k)).take k):l=r:=by
 apply zV0;intro j;by_cases hj:j<n*k
 · have hd:j/k<n:=yF2 (by rw[yP1];exact hj)
   have e:=zH0 (fun x:List Value=>x[j%k]?) (h _ hd);have hm:j%k<k:=xD1 _ hk;simp only[List.getElem?_take,xE0,yA hm]at e;have hjj:j/k*k+j%k=j:=by rw[yP1];exact xH1 j k
   rw[hjj]at e;exact e
 · rw[yW0 yEn,yW0 yEn]
theorem yEk {W:World} {n:String} {g:Nat} {cs r:Array Value} (hg:Tryz.prog.globalNamed n=some g) (h:W.var? Tryz.prog n=some cs) (e:cs.toList=r.toList):RowAt W g r:=by
 unfold World.var? at h;rw[hg]at h;simp only[Option.bind_some]at h;split at h
 · rename_i cs' t fr hh
   obtain rfl:=zX1 h;refine⟨t,fr,hh.trans ?_⟩;have:cs'=r:=Array.ext' e;rw[this]
 · cases h
theorem yFk {W:World} (h:Lib.VarReads Tryz.prog W "reredos/scalar.dyads" Rows.laid_reredos_scalar_dyads):RowAt W 1 xQk:=by
 obtain⟨g,t,cs,fuel,p,hg,ht,hv,hr⟩:=h;obtain rfl:=zX1 (gDy.symm.trans hg);obtain rfl:=zX1 (tDy.symm.trans ht);refine yEk gDy hv ?_;have hc:Tryz.prog.cellsOf 89=3:=by kernel_rfl
 have hn:Tryz.prog.cellsOf 119=33:=by kernel_rfl
 have hl:=zYk Tryz.underlying119 hr;rw[hn]at hl;refine yDk (n:=11) (k:=3) yCn hl yCn fun i hi=> ?_;obtain⟨f',d,q,hd,hr'⟩:=Lib.array_elem Tryz.underlying119 hr i hi;rw[hc]at hr';obtain rfl|rfl|rfl|rfl|rfl|rfl|rfl|rfl|rfl|rfl|rfl:i=0∨i=1∨i=2∨i=3∨i=4∨i=5∨i=6∨i=7∨i=8∨i=9∨i=10:=by omega
 all_goals
  obtain rfl:=zX1 hd;rw[yCk hr'];rfl
theorem yGk {W:World} (h:Lib.VarReads Tryz.prog W "reredos/scalar.monads" Rows.laid_reredos_scalar_monads):RowAt W 0 xRk:=by
 obtain⟨g,t,cs,fuel,p,hg,ht,hv,hr⟩:=h;obtain rfl:=zX1 (gMo.symm.trans hg);obtain rfl:=zX1 (tMo.symm.trans ht);refine yEk gMo hv ?_;have hc:Tryz.prog.cellsOf 9=1:=by kernel_rfl
 have hn:Tryz.prog.cellsOf 104=3:=by kernel_rfl
 have hl:=zYk Tryz.underlying104 hr;rw[hn]at hl;refine yDk (n:=3) (k:=1) yCn hl yCn fun i hi=> ?_;obtain⟨f',d,q,hd,hr'⟩:=Lib.array_elem Tryz.underlying104 hr i hi;rw[hc]at hr';obtain rfl|rfl|rfl:i=0∨i=1∨i=2:=by omega
 all_goals
  obtain rfl:=zX1 hd;rw[zZk hr'];rfl
end
section
open Go.ChangeShapes Go.WideShapes Go.ChangeAt Go.RowKit
def yHk:List (String×DataW Unit):=[("math/bits.deBruijn32tab",Rows.laid_math_bits_deBruijn32tab),("math/bits.deBruijn64tab",Rows.laid_math_bits_deBruijn64tab),("internal/strconv.uint64pow10",Rows.laid_internal_strconv_uint64pow10),("strconv.ErrRange",Rows.laid_strconv_ErrRange),("strconv.ErrSyntax",Rows.laid_strconv_ErrSyntax),("reredos/scalar.dyads",Rows.laid_reredos_scalar_dyads),("reredos/scalar.monads",Rows.laid_reredos_scalar_monads)]
theorem yIk {W:World} (h:laidMetH Tryz.prog yHk W):WT W:=by
 rw[MakeChecks.laidMetH_plain _ _ _ zYn]at h;have h2:=xR2 (xR2 h);have h3:=xR2 h2;rw[yHc]at h2;refine⟨Lib.tabBelow_of_tabIs (Lib.tabIs_of_head yFc yGc Tryz.underlying184 Tryz.underlying153 zYn zYn h2),?_⟩;obtain⟨a,s,hv,_,_,_⟩:=laid_sentinel h3 yIc yJc Tryz.underlying189 yLc Tryz.underlying245 Tryz.underlying247 rfl rfl Tryz.underlying9 zYn zYn;exact⟨_,World.var?_cell yIc hv 0,.inr ⟨_,_,rfl⟩⟩
theorem yJk {W:World} (h:laidMetH Tryz.prog yHk W):SM W:=by
 rw[MakeChecks.laidMetH_plain _ _ _ zYn]at h;have h2:=xR2 (xR2 h);have h3:=yFk (Lib.laidMet.reads h (by simp[yHk]));have h4:=yGk (Lib.laidMet.reads h (by simp[yHk]));rw[yHc]at h2;exact⟨⟨Lib.tabBelow_of_tabIs (Lib.tabIs_of_head yFc yGc Tryz.underlying184 Tryz.underlying153 zYn zYn h2),h3⟩,h4⟩
theorem yKk (os:Os) (args:Array Value):laidMetH Tryz.prog yHk ((World.doorLaid Tryz.prog 400 os).forCall (fun _ _=>0) ⟨#[],args,[]⟩).memory:=
 laidMetH_of_parts3 (fuel:=8) (laidMet_of_run' 8 zYn zYn) zYn zYn
end
end Go.Proofs.YtcfbjdplhgdpfaaGreatDoor

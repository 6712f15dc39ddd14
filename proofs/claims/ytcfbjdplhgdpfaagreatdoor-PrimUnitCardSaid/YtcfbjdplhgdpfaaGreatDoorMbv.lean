import Derived.Test.YtcfbjdplhgdpfaaGreatDoorRows
import Derived.Test.YtcfbjdplhgdpfaaGreatDoorMag
import Derived.ProofKit
import Derived.LaidMore
import Derived.OpenShut
import Derived.Stop.LaidErr
import Derived.Stop.Joined
import Derived.Test.YtcfbjdplhgdpfaaGreatDoorMav
import Derived.Test.YtcfbjdplhgdpfaaGreatDoorMau
import Derived.Lib.SmallJoins
import Derived.SliceStrings
import Derived.Carry
import Derived.Test.YtcfbjdplhgdpfaaGreatDoorMan
import Derived.Lib.LaidU8
set_option maxRecDepth 100000
namespace Go.Proofs.YtcfbjdplhgdpfaaGreatDoor
set_option linter.unusedVariables false
set_option linter.unusedSimpArgs false
open Go.ChangeShapes Go.WideShapes Go.ChangeAt Go.RowKit
theorem own:ownKnob Tryz.prog.godebug=none:=by kernel_rfl
theorem gPow:Tryz.prog.globalNamed "internal/strconv.uint64pow10" =some 2:=by kernel_rfl
theorem tPow:(Tryz.prog.globals[2]?).map (·.type)=some 184:=by kernel_rfl
theorem powData:(Rows.laid_internal_strconv_uint64pow10:DataW Unit)=Lib.tabData .u64 Lib.pow10Tab:=by kernel_rfl
end Go.Proofs.YtcfbjdplhgdpfaaGreatDoor
namespace Go.Proofs.YtcfbjdplhgdpfaaGreatDoor
set_option linter.unusedVariables false
set_option linter.unusedSimpArgs false
section
open Go.ChangeShapes Go.WideShapes Go.ChangeAt Go.RowKit
end
section
open Go.ChangeShapes Go.WideShapes Go.ChangeAt Go.RowKit
theorem gErr:Tryz.prog.globalNamed "strconv.ErrRange" =some 7:=by kernel_rfl
theorem tErr:(Tryz.prog.globals[7]?).map (·.type)=some 189:=by kernel_rfl
theorem star: "*" ++ "errors.errorString" = "*errors.errorString" :=by decide
theorem rowErr (u:TypeId) (h:Tryz.prog.typeName? 3 u=some "*errors.errorString"):u=245:=
 typeName_ptr_named (nm:= "errors.errorString") (by rw[star];kernel_rfl) (by kernel_rfl) (by decide) u (by rw[star];exact h)
end
end Go.Proofs.YtcfbjdplhgdpfaaGreatDoor
namespace Go.Proofs.YtcfbjdplhgdpfaaGreatDoor
set_option linter.unusedVariables false
set_option linter.unusedSimpArgs false
open Go.ChangeShapes Go.WideShapes Go.ChangeAt Go.RowKit
theorem laidOut:laidOutB Tryz.prog=true:=by kernel_rfl
theorem strings_at {w:World} {a:Addr} {ss:List ByteArray} (h:∀i,i<ss.length→w.cell? (a.add i)=some (.string (ss.getD i ByteArray.empty))) (hp:0<ss.length):
 ∃b off,a=⟨b,off,none⟩∧∀j,j<ss.length→w.cell? ⟨b,off+j,none⟩=some (.string (ss.getD j ByteArray.empty)):=by
 obtain⟨b,off,spot⟩:=a
 have hspot:spot=none:=by simpa[Addr.add]using World.cell?_spot (h 0 hp)
 subst hspot
 exact⟨b,off,rfl,fun j hj=>by rw[←Go.WideShapes.add_plain];exact h j hj⟩
theorem i64_of {x:Int} (h:(Lit.int .i64 x).wf=true):I64 x:=by
 have h1:IntKind.i64.min= -9223372036854775808:=rfl
 have h2:IntKind.i64.max=9223372036854775807:=rfl
 simp only[Lit.wf,Bool.and_eq_true,decide_eq_true_eq]at h
 unfold I64
 omega
theorem ints_opened {H:Type} {enc:TypeId×Value→H} {W:World} {fuel:Nat} {v:Value} {x:DataW H×List MemPlace} (hf:DataW.trod enc Tryz.prog W 0 (fun _=>true) true fuel 22 [v]=some x):
 ∃a n c l,v=.slice a n c∧Sl W a n l∧(∀j,j<n→I64 (l.getD j 0))∧n≤c∧c≤maxLen:=by
 have hc:Tryz.prog.cellsOf 3=1:=by kernel_rfl
 rcases open_ints Tryz.underlying22 Tryz.underlying3 hc hf with⟨hcs,_⟩|⟨a',n',c',zs,hcs,_,hle,hmax,hall,_,hcell,hwf⟩
 · simp at hcs
   exact⟨none,0,0,[],hcs,Sl.nil _ _,fun j hj=>by omega,Nat.le_refl _,by unfold maxLen;omega⟩
 · simp at hcs
   simp only[if_true]at hall
   have hget:∀j,j<n'→(zs.take n').getD j 0=zs.getD j 0:=fun j hj=>by simp[List.getD,List.getElem?_take_of_lt hj]
   refine⟨some a',n',c',zs.take n',hcs,⟨by simp;omega,fun hn=> ?_⟩,fun j hj=> ?_,hle,hmax⟩
   · obtain⟨b,off,rfl,hc2⟩:=ints_at hcell (by omega)
     exact⟨b,off,rfl,fun j hj=>by rw[hc2 j (by omega),hget j hj]⟩
   · rw[hget j hj,List.getD_eq_getElem?_getD,List.getElem?_eq_getElem (show j<zs.length by omega)]
     exact i64_of (hwf _ (List.getElem_mem _))
theorem strs_opened {H:Type} {enc:TypeId×Value→H} {W:World} {fuel:Nat} {v:Value} {x:DataW H×List MemPlace} (hf:DataW.trod enc Tryz.prog W 0 (fun _=>true) true fuel 23 [v]=some x):
 ∃a n c l,v=.slice a n c∧St W a n l∧(∀j,j<n→(l.getD j ByteArray.empty).size≤maxLen)∧n≤c∧c≤maxLen:=by
 have hc:Tryz.prog.cellsOf 9=1:=by kernel_rfl
 rcases open_strings Tryz.underlying23 Tryz.underlying9 hc hf with⟨hcs,_⟩|⟨a',n',c',zs,hcs,_,hle,hmax,hall,_,hcell,hwf⟩
 · simp at hcs
   exact⟨none,0,0,[],hcs,St.nil _ _,fun j hj=>by omega,Nat.le_refl _,by unfold maxLen;omega⟩
 · simp at hcs
   simp only[if_true]at hall
   have hget:∀j,j<n'→(zs.take n').getD j ByteArray.empty=zs.getD j ByteArray.empty:=fun j hj=>by simp[List.getD,List.getElem?_take_of_lt hj]
   refine⟨some a',n',c',zs.take n',hcs,⟨by simp;omega,fun hn=> ?_⟩,fun j hj=> ?_,hle,hmax⟩
   · obtain⟨b,off,rfl,hc2⟩:=strings_at hcell (by omega)
     exact⟨b,off,rfl,fun j hj=>by rw[hc2 j (by omega),hget j hj]⟩
   · rw[hget j hj,List.getD_eq_getElem?_getD,List.getElem?_eq_getElem (show j<zs.length by omega)]
     exact hwf _ (List.getElem_mem _)
theorem maxLen_i64:maxLen≤9223372036854775807:=by unfold maxLen;omega
theorem val_opened {H:Type} {enc:TypeId×Value→H} {W:World} {r:Reach} {b0:Nat} {v:Value} {dd:DataW H} {p:List MemPlace} (hv:Value.okWide Tryz.prog W r b0 25 v) (h:DataW.Trod enc Tryz.prog W 0 (fun _=>true) true 25 v dd p):
 ∃a n c b m d l es,v=.agg #[.slice a n c,.slice b m d]∧Vl W a n b m l es∧Cp n c m d∧(∀j,j<m→(es.getD j ByteArray.empty).size≤maxLen):=by
 obtain⟨v0,v1,y0,y1,n,rfl,_,_,t0,t1⟩:=Go.Joins.open_agg2 Tryz.underlying25 (by kernel_rfl) (by kernel_rfl) hv h
 obtain⟨a,k,c,l,rfl,hs,_,q1,q2⟩:=ints_opened t0
 obtain⟨b,m,d,es,rfl,ht,hz,q3,q4⟩:=strs_opened t1
 exact⟨a,k,c,b,m,d,l,es,rfl,⟨hs,ht,Nat.le_trans (Nat.le_trans q3 q4) maxLen_i64⟩,⟨q1,q2,q3,q4⟩,hz⟩
end Go.Proofs.YtcfbjdplhgdpfaaGreatDoor
namespace Go.Proofs.YtcfbjdplhgdpfaaGreatDoor
set_option linter.unusedVariables false
set_option linter.unusedSimpArgs false
open Go.ChangeShapes Go.WideShapes Go.ChangeAt Go.RowKit
theorem gDy:Tryz.prog.globalNamed "reredos/scalar.dyads" =some 1:=by kernel_rfl
theorem tDy:(Tryz.prog.globals[1]?).map (·.type)=some 119:=by kernel_rfl
theorem gMo:Tryz.prog.globalNamed "reredos/scalar.monads" =some 0:=by kernel_rfl
theorem tMo:(Tryz.prog.globals[0]?).map (·.type)=some 104:=by kernel_rfl
section
variable {W:World} {fuel:Nat} {cs:List Value} {p:List MemPlace} {n:Nat}
theorem array_len {t e:TypeId} {ds:List (DataW Unit)} (ht:Tryz.prog.underlying t=some (.array n e)) (h:DataW.trod (fun _=>()) Tryz.prog W 0 (fun _=>true) false fuel t cs=some (.agg ds,p)):cs.length=Tryz.prog.cellsOf t:=by
 cases fuel with
 |zero=>simp[DataW.trod]at h
 |succ fuel=>
  simp only[DataW.trod,ht]at h
  split at h
  · rename_i hl
    exact hl
  · cases h
theorem str_of {s:List UInt8} (h:DataW.trod (fun _=>()) Tryz.prog W 0 (fun _=>true) false fuel 9 cs=some (.lit (.string s),p)):cs=[.string ⟨s.toArray⟩]:=by
 obtain⟨v,rfl,hx,_⟩:=DataW.trod_string Tryz.underlying9 h
 injection hx with hx
 injection hx with hx
 injection hx with hx
 subst hx
 rfl
theorem bool_of {b:Bool} (h:DataW.trod (fun _=>()) Tryz.prog W 0 (fun _=>true) false fuel 4 cs=some (.lit (.bool b),p)):cs=[.bool b]:=by
 obtain⟨v,rfl,hx⟩:=DataW.trod_bool Tryz.underlying4 h
 injection hx with hx
 injection hx with hx
 injection hx with hx
 rw[hx]
theorem cut3 {l:List Value} {x y z:Value} (h0:(l.drop 0).take 1=[x]) (h1:(l.drop 1).take 1=[y]) (h2:(l.drop 2).take 1=[z]) (hl:l.length=3):l=[x,y,z]:=by
 match l,hl with
 |[a,b,c],_=>simp_all
theorem sign_of {a c:List UInt8} {b:Bool} (h:DataW.trod (fun _=>()) Tryz.prog W 0 (fun _=>true) false fuel 89 cs=some (.agg [.lit (.string a),.lit (.bool b),.lit (.string c)],p)):cs=[.string ⟨a.toArray⟩,.bool b,.string ⟨c.toArray⟩]:=by
 have hs:Tryz.prog.cellsOf 9=1:=by kernel_rfl
 have hb:Tryz.prog.cellsOf 4=1:=by kernel_rfl
 have hg:Tryz.prog.cellsOf 89=3:=by kernel_rfl
 obtain⟨xs,m,rfl,hx,hl,hxl,hall⟩:=DataW.trod_struct Tryz.underlying89 h
 rw[hg]at hl
 match xs,hxl with
 |[y0,y1,y2],_=>
  injection hx with hx _
  injection hx with hx
  simp only[List.map_cons,List.map_nil]at hx
  injection hx with e0 hx
  injection hx with e1 hx
  injection hx with e2 _
  have h0:DataW.trod (fun _=>()) Tryz.prog W 0 (fun _=>true) false m 9 ((cs.drop 0).take (Tryz.prog.cellsOf 9))=some y0:=hall 0 _ rfl
  have h1:DataW.trod (fun _=>()) Tryz.prog W 0 (fun _=>true) false m 4 ((cs.drop 1).take (Tryz.prog.cellsOf 4))=some y1:=hall 1 _ rfl
  have h2:DataW.trod (fun _=>()) Tryz.prog W 0 (fun _=>true) false m 9 ((cs.drop 2).take (Tryz.prog.cellsOf 9))=some y2:=hall 2 _ rfl
  rw[hs]at h0 h2
  rw[hb]at h1
  obtain⟨d0,q0⟩:=y0
  obtain⟨d1,q1⟩:=y1
  obtain⟨d2,q2⟩:=y2
  simp only at e0 e1 e2
  subst e0 e1 e2
  exact cut3 (str_of h0) (bool_of h1) (str_of h2) hl
end
theorem list_parts {l r:List Value} {n k:Nat} (hk:0<k) (h1:l.length=n*k) (h2:r.length=n*k) (h:∀i,i<n→(l.drop (i*k)).take k=(r.drop (i*k)).take k):l=r:=by
 apply List.ext_getElem?
 intro j
 by_cases hj:j<n*k
 · have hd:j/k<n:=Nat.div_lt_of_lt_mul (by rw[Nat.mul_comm];exact hj)
   have e:=congrArg (fun x:List Value=>x[j%k]?) (h _ hd)
   have hm:j%k<k:=Nat.mod_lt _ hk
   simp only[List.getElem?_take,List.getElem?_drop,if_pos hm]at e
   have hjj:j/k*k+j%k=j:=by rw[Nat.mul_comm];exact Nat.div_add_mod j k
   rw[hjj]at e
   exact e
 · rw[List.getElem?_eq_none (by omega),List.getElem?_eq_none (by omega)]
theorem var_row {W:World} {n:String} {g:Nat} {cs r:Array Value} (hg:Tryz.prog.globalNamed n=some g) (h:W.var? Tryz.prog n=some cs) (e:cs.toList=r.toList):RowAt W g r:=by
 unfold World.var? at h
 rw[hg]at h
 simp only[Option.bind_some]at h
 split at h
 · rename_i cs' t fr hh
   obtain rfl:=Option.some.inj h
   refine⟨t,fr,hh.trans ?_⟩
   have:cs'=r:=Array.ext' e
   rw[this]
 · cases h
theorem dyads_at {W:World} (h:Lib.VarReads Tryz.prog W "reredos/scalar.dyads" Rows.laid_reredos_scalar_dyads):RowAt W 1 drow:=by
 obtain⟨g,t,cs,fuel,p,hg,ht,hv,hr⟩:=h
 obtain rfl:=Option.some.inj (gDy.symm.trans hg)
 obtain rfl:=Option.some.inj (tDy.symm.trans ht)
 refine var_row gDy hv ?_
 have hc:Tryz.prog.cellsOf 89=3:=by kernel_rfl
 have hn:Tryz.prog.cellsOf 119=33:=by kernel_rfl
 have hl:=array_len Tryz.underlying119 hr
 rw[hn]at hl
 refine list_parts (n:=11) (k:=3) (by decide) hl (by decide) fun i hi=> ?_
 obtain⟨f',d,q,hd,hr'⟩:=Lib.array_elem Tryz.underlying119 hr i hi
 rw[hc]at hr'
 obtain rfl|rfl|rfl|rfl|rfl|rfl|rfl|rfl|rfl|rfl|rfl:i=0∨i=1∨i=2∨i=3∨i=4∨i=5∨i=6∨i=7∨i=8∨i=9∨i=10:=by omega
 all_goals
  obtain rfl:=Option.some.inj hd
  rw[sign_of hr']
  rfl
theorem monads_at {W:World} (h:Lib.VarReads Tryz.prog W "reredos/scalar.monads" Rows.laid_reredos_scalar_monads):RowAt W 0 mrow:=by
 obtain⟨g,t,cs,fuel,p,hg,ht,hv,hr⟩:=h
 obtain rfl:=Option.some.inj (gMo.symm.trans hg)
 obtain rfl:=Option.some.inj (tMo.symm.trans ht)
 refine var_row gMo hv ?_
 have hc:Tryz.prog.cellsOf 9=1:=by kernel_rfl
 have hn:Tryz.prog.cellsOf 104=3:=by kernel_rfl
 have hl:=array_len Tryz.underlying104 hr
 rw[hn]at hl
 refine list_parts (n:=3) (k:=1) (by decide) hl (by decide) fun i hi=> ?_
 obtain⟨f',d,q,hd,hr'⟩:=Lib.array_elem Tryz.underlying104 hr i hi
 rw[hc]at hr'
 obtain rfl|rfl|rfl:i=0∨i=1∨i=2:=by omega
 all_goals
  obtain rfl:=Option.some.inj hd
  rw[str_of hr']
  rfl
end Go.Proofs.YtcfbjdplhgdpfaaGreatDoor
namespace Go.Proofs.YtcfbjdplhgdpfaaGreatDoor
set_option linter.unusedVariables false
set_option linter.unusedSimpArgs false
open Go.ChangeShapes Go.WideShapes Go.ChangeAt Go.RowKit
def laid7p:List (String×DataW Unit):=[("math/bits.deBruijn32tab",Rows.laid_math_bits_deBruijn32tab),("math/bits.deBruijn64tab",Rows.laid_math_bits_deBruijn64tab),("internal/strconv.uint64pow10",Rows.laid_internal_strconv_uint64pow10),("strconv.ErrRange",Rows.laid_strconv_ErrRange),("strconv.ErrSyntax",Rows.laid_strconv_ErrSyntax),("reredos/scalar.dyads",Rows.laid_reredos_scalar_dyads),("reredos/scalar.monads",Rows.laid_reredos_scalar_monads)]
theorem wtp_of_laid {W:World} (h:laidMetH Tryz.prog laid7p W):WT W:=by
 rw[MakeChecks.laidMetH_plain _ _ _ (by kernel_rfl)]at h
 have h2:=laidMet.tail (laidMet.tail h)
 have h3:=laidMet.tail h2
 rw[powData]at h2
 refine⟨Lib.tabBelow_of_tabIs (Lib.tabIs_of_head gPow tPow Tryz.underlying184 Tryz.underlying153 (by kernel_rfl) (by kernel_rfl) h2),?_⟩
 obtain⟨a,s,hv,_,_,_⟩:=laid_sentinel h3 gErr tErr Tryz.underlying189 rowErr Tryz.underlying245 Tryz.underlying247 rfl rfl Tryz.underlying9 (by kernel_rfl) (by kernel_rfl)
 exact⟨_,World.var?_cell gErr hv 0,.inr ⟨_,_,rfl⟩⟩
theorem smp_of_laid {W:World} (h:laidMetH Tryz.prog laid7p W):SM W:=by
 rw[MakeChecks.laidMetH_plain _ _ _ (by kernel_rfl)]at h
 have h2:=laidMet.tail (laidMet.tail h)
 have h3:=dyads_at (Lib.laidMet.reads h (by simp[laid7p]))
 have h4:=monads_at (Lib.laidMet.reads h (by simp[laid7p]))
 rw[powData]at h2
 exact⟨⟨Lib.tabBelow_of_tabIs (Lib.tabIs_of_head gPow tPow Tryz.underlying184 Tryz.underlying153 (by kernel_rfl) (by kernel_rfl) h2),h3⟩,h4⟩
theorem door_met7p (os:Os) (args:Array Value):laidMetH Tryz.prog laid7p ((World.doorLaid Tryz.prog 400 os).forCall (fun _ _=>0) ⟨#[],args,[]⟩).memory:=
 laidMetH_of_parts3 (fuel:=8) (laidMet_of_run' 8 (by kernel_rfl) (by kernel_rfl)) (by kernel_rfl) (by kernel_rfl)
end Go.Proofs.YtcfbjdplhgdpfaaGreatDoor

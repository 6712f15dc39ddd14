import Derived.Test.YtbijncndjlmmdaaGreatDoorMay
import Derived.Maps.OwnSet
import Derived.Maps.OwnOps
import Derived.Test.YtbijncndjlmmdaaGreatDoorMaz
set_option maxHeartbeats 3200000
set_option maxRecDepth 100000
namespace Go.Proofs.YtbijncndjlmmdaaGreatDoor
set_option linter.unusedVariables false
set_option linter.unusedSimpArgs false
open Go.RowKit
theorem fp_app {α:Type} [DecidableEq α] {l:List α} {x:α} (h:x∈l) (m:List α):fpS (l++m) x=fpS l x:=by
 have hl:=fp_mem.2 h
 refine fp_one (by rw[List.length_append];omega) ?_ fun j hj=> ?_
 · rw[List.getElem?_append_left hl];exact fp_at hl
 · rw[List.getElem?_append_left (by omega)];exact fp_min hj
theorem fp_new {α:Type} [DecidableEq α] {l:List α} {x:α} (h:x∉l) (m:List α):fpS (l++x::m) x=l.length:=by
 refine fp_one (by simp) (by simp) fun j hj e=> ?_
 rw[List.getElem?_append_left hj]at e
 exact h (List.mem_of_getElem? e)
theorem fp_not {α:Type} [DecidableEq α] {l:List α} {x:α} (h:x∉l):fpS l x=l.length:=by
 have:=fp_le l x
 rcases Nat.lt_or_ge (fpS l x) l.length with h1|h1
 · exact absurd (fp_mem.1 h1) h
 · omega
theorem fkey_ne {s t:ByteArray} (h:s≠t):(Lit.string s.data.toList)≠(Lit.string t.data.toList):=fun e=>h (by
 injection e with e
 exact ByteArray.ext (Array.toList_inj.1 e))
theorem fkeyed:Go.Maps.Keyed Tryz.prog 9:=Go.Maps.string_keyed Tryz.underlying9
theorem fzero (w:World):(zeroValue 3).run Tryz.prog w=.ok (.int .i64 0) w:=by kernel_rfl
def FstD (D:DataW Unit) (l:List ByteArray):Prop:=
 ∀s:ByteArray,(Maps.has D (.string s.data.toList)=true↔s∈l)∧(s∈l→D.atKey (.string s.data.toList) (.lit (.int .i64 0))=.lit (.int .i64 ((fpS l s:Nat):Int)))
theorem FstD.nil:FstD (.map []) []:=fun s=>⟨by simp[Maps.has],fun h=>by cases h⟩
theorem FstD.old {D:DataW Unit} {l:List ByteArray} {s:ByteArray} (h:FstD D l) (hs:s∈l):FstD D (l++[s]):=fun t=>by
 obtain⟨h1,h2⟩:=h t
 have e:t∈l++[s]↔t∈l:=by
  rw[List.mem_append,List.mem_singleton]
  exact⟨fun k=>k.elim id fun e=>by rw[e];exact hs,.inl⟩
 refine⟨by rw[h1,e],fun k=> ?_⟩
 rw[fp_app (e.1 k)];exact h2 (e.1 k)
theorem FstD.new {D:DataW Unit} {l:List ByteArray} {s:ByteArray} (h:FstD D l) (hD:Maps.IsMap D) (hs:s∉l):FstD (D.put (.string s.data.toList) (.lit (.int .i64 (l.length:Int)))) (l++[s]):=fun t=>by
 by_cases e:t=s
 · subst e
   exact⟨by rw[Maps.has_put_same (k:=.string t.data.toList) hD trivial];simp,fun _=>by rw[Maps.atKey_put_same (k:=.string t.data.toList) hD trivial,fp_new hs []]⟩
 · have k:=fkey_ne e
   obtain⟨h1,h2⟩:=h t
   refine⟨by rw[Maps.has_put_other k,h1];simp[e],fun m=> ?_⟩
   have m':t∈l:=by simpa[e]using m
   rw[Maps.atKey_put_other k,fp_app m'];exact h2 m'
theorem FstD.yes {D:DataW Unit} {l:List ByteArray} {s:ByteArray} (h:FstD D l) (hs:s∈l):Maps.has D (.string s.data.toList)=true:=(h s).1.2 hs
theorem FstD.no {D:DataW Unit} {l:List ByteArray} {s:ByteArray} (h:FstD D l) (hs:s∉l):Maps.has D (.string s.data.toList)=false:=Bool.eq_false_iff.2 fun e=>hs ((h s).1.1 e)
theorem FstD.at {D:DataW Unit} {l:List ByteArray} (h:FstD D l) {s:ByteArray} (hs:s∈l) {c:Int} (hc:D.atKey (.string s.data.toList) (.lit (.int .i64 0))=.lit (.int .i64 c)):c=(fpS l s:Nat):=by
 rw[(h s).2 hs]at hc
 injection hc with hc
 injection hc with _ hc
 exact hc.symm
def Fst (w:World) (B n:Nat) (l:List ByteArray):Prop:=∃D:DataW Unit,w.ownsMap Tryz.prog 9 (plainElem Tryz.prog 3) B n D∧FstD D l
theorem Fst.below {w w':World} {B n:Nat} {l:List ByteArray} (h:Fst w B n l) (hb:Below w.heap.size w w'):Fst w' B n l:=by
 obtain⟨D,⟨es,clock,h1,h2⟩,h3⟩:=h
 exact⟨D,⟨es,clock,(hb.block B (Array.getElem?_eq_some_iff.1 h1).1).trans h1,h2⟩,h3⟩
theorem Stb.fst {B n:Nat} {l:List ByteArray}:Stb fun w=>Fst w B n l:=fun _ _ h hb=>h.below hb
def FsEnd (l:List ByteArray) (W:World) (e:Ending) (W':World):Prop:=∃B,e=.returned (.map (some B))∧Fst W' B l.length l∧Below W.heap.size W W'
theorem live_fs {P:World→Prop} {w:World} {f:FuncId} {args:Array Value} {l:List ByteArray} (h:Lv P w) (hc:Calls Tryz.prog f args w (FsEnd l w))
 (hs:Stb P:=by repeat' (first|exact Stb.bel _|exact Stb.bx|exact Stb.vl|refine Stb.and ?_ ?_|exact Stb.triv)):
 Calls Tryz.prog f args w fun e w'=>∃B,e=.returned (.map (some B))∧Lv (fun z=>Fst z B l.length l∧P z) w':=
 hc.mono fun _ _ ⟨B,h1,h2,h3⟩=>⟨B,h1,⟨h2,hs _ _ h.out h3⟩⟩
end Go.Proofs.YtbijncndjlmmdaaGreatDoor
namespace Go.Proofs.YtbijncndjlmmdaaGreatDoor
set_option linter.unusedVariables false
set_option linter.unusedSimpArgs false
open Go.RowKit
def vcE:Option Ar→Int
 |none=>1
 |some v=>if v.1.length≠1 then 3 else 0
end Go.Proofs.YtbijncndjlmmdaaGreatDoor
namespace Go.Proofs.YtbijncndjlmmdaaGreatDoor
set_option linter.unusedVariables false
set_option linter.unusedSimpArgs false
open Go.RowKit
theorem int_snoc (O:List Nat) (x:Nat):valsI (intL (O++[x]))=valsI (intL O)++valsI [(x:Int)]:=by simp[intL,valsI]
end Go.Proofs.YtbijncndjlmmdaaGreatDoor
namespace Go.Proofs.YtbijncndjlmmdaaGreatDoor
set_option linter.unusedVariables false
set_option linter.unusedSimpArgs false
open Go.RowKit
theorem up_no {o:Option Ar} {sg:Int} (h:vcE o≠0):upK sg o=(none,vcE o):=by
 cases o with
 |none=>rfl
 |some v=>
  unfold vcE at h ⊢
  unfold upK
  dsimp only at h ⊢
  by_cases hl:v.1.length≠1
  · rw[if_pos hl,if_pos hl]
  · rw[if_neg hl]at h;exact absurd rfl h
theorem wh_no {o:Option Ar} (h:vcE o≠0):whK o=(none,vcE o):=by
 cases o with
 |none=>rfl
 |some v=>
  unfold vcE at h ⊢
  unfold whK
  dsimp only at h ⊢
  by_cases hl:v.1.length≠1
  · rw[if_pos hl,if_pos hl]
  · rw[if_neg hl]at h;exact absurd rfl h
theorem vc_yes {o:Option Ar} (h:vcE o=0):∃v,o=some v∧v.1.length=1:=by
 cases o with
 |none=>cases h
 |some v=>
  unfold vcE at h
  dsimp only at h
  by_cases hl:v.1.length≠1
  · rw[if_pos hl]at h;cases h
  · exact⟨v,rfl,by omega⟩
end Go.Proofs.YtbijncndjlmmdaaGreatDoor
namespace Go.Proofs.YtbijncndjlmmdaaGreatDoor
set_option linter.unusedVariables false
set_option linter.unusedSimpArgs false
open Go.RowKit
theorem natL_take (l:List Int) (k:Nat):(natL (l.take k)).sum≤(natL l).sum:=by
 have e:natL l=natL (l.take k)++natL (l.drop k):=by unfold natL;rw[←List.map_append,List.take_append_drop]
 rw[e,List.sum_append];omega
theorem natL_snoc {l:List Int} {k x:Nat} (hk:k<l.length) (hx:l.getD k 0=(x:Int)):natL (l.take (k+1))=natL (l.take k)++[x]:=by
 rw[takeI_snoc hk,hx]
 simp[natL]
theorem natL_len (l:List Int):(natL l).length=l.length:=by simp[natL]
theorem wh_yes {q:Ar} (hl:q.1.length=1) (ha:q.2.all nearM=true):whK (some q)=if∃x∈q.2,x<0 then(none,5)else if 4096<(natL q.2).sum then(none,8)else(some ([((natL q.2).sum:Int)],intL (whS 0 (natL q.2))),0):=by
 unfold whK
 dsimp only
 rw[if_neg (fun e=>e hl),ha,if_neg (by simp)]
theorem wh_far {q:Ar} (hl:q.1.length=1) (ha:q.2.all nearM=false):whK (some q)=(none,5):=by
 unfold whK
 dsimp only
 rw[if_neg (fun e=>e hl),if_pos ha]
theorem whS_I64 {l:List Nat} (h:l.length≤100000) {j:Nat}:I64 ((intL (whS 0 l)).getD j 0):=by
 rcases Nat.lt_or_ge j (intL (whS 0 l)).length with hj|hj
 · rw[List.getD_eq_getElem?_getD,List.getElem?_eq_getElem hj]
   obtain⟨i,hi,e⟩:=List.mem_map.1 (List.getElem_mem hj)
   have:=(wh_mem hi).2
   show I64 (intL (whS 0 l))[j]
   rw[←e]
   unfold I64;omega
 · rw[List.getD_eq_getElem?_getD,List.getElem?_eq_none hj]
   show I64 0
   unfold I64;omega
end Go.Proofs.YtbijncndjlmmdaaGreatDoor
namespace Go.Proofs.YtbijncndjlmmdaaGreatDoor
set_option linter.unusedVariables false
set_option linter.unusedSimpArgs false
open Go.RowKit
theorem un_no {o:Option Ar} (h:vcE o≠0):unK o=(none,vcE o):=by
 cases o with
 |none=>rfl
 |some v=>
  unfold vcE at h ⊢
  unfold unK
  dsimp only at h ⊢
  by_cases hl:v.1.length≠1
  · rw[if_pos hl,if_pos hl]
  · rw[if_neg hl]at h;exact absurd rfl h
theorem un_yes {q:Ar} (hl:q.1.length=1):unK (some q)=(some ([((unS q.2).length:Int)],unS q.2),0):=by
 unfold unK
 dsimp only
 rw[if_neg (fun e=>e hl)]
theorem fp_S (xs:List Int) (x:Int):fpS (xs.map S) (S x)=fpS xs x:=by
 induction xs with
 |nil=>rfl
 |cons y r ih=>
  show(if S y=S x then 0 else fpS (r.map S) (S x)+1)=if y=x then 0 else fpS r x+1
  by_cases h:y=x
  · rw[if_pos (by rw[h]),if_pos h]
  · rw[if_neg (fun e=>h (S_inj e)),if_neg h,ih]
theorem fp_here {xs:List Int} {i:Nat} (hi:i<xs.length):fpS xs (xs.getD i 0)=i↔xs.getD i 0∉xs.take i:=by
 have e:xs.getD i 0=xs[i]:=by rw[List.getD_eq_getElem?_getD,List.getElem?_eq_getElem hi];rfl
 rw[e]
 constructor
 · intro h hm
   obtain⟨j,hj,e2⟩:=List.getElem_of_mem hm
   rw[List.length_take]at hj
   rw[List.getElem_take]at e2
   exact fp_min (l:=xs) (x:=xs[i]) (k:=j) (by omega) (by rw[List.getElem?_eq_getElem (by omega),e2])
 · intro h
   exact fp_one hi (List.getElem?_eq_getElem hi) fun j hj e2=>h (by
    rw[List.getElem?_eq_getElem (by omega)]at e2
    injection e2 with e2
    rw[←e2]
    exact List.mem_take_iff_getElem.2 ⟨j,by omega,rfl⟩)
theorem un_take {xs:List Int} {i:Nat} (hi:i<xs.length):unS (xs.take (i+1))=unS (xs.take i)++(if fpS xs (xs.getD i 0)=i then[xs.getD i 0]else[]):=by
 rw[takeI_snoc hi,un_snoc]
 congr 1
 by_cases h:fpS xs (xs.getD i 0)=i
 · rw[if_pos h,if_neg ((fp_here hi).1 h)]
 · rw[if_neg h,if_pos (by
    by_cases hm:xs.getD i 0∈xs.take i
    · exact hm
    · exact absurd ((fp_here hi).2 hm) h)]
end Go.Proofs.YtbijncndjlmmdaaGreatDoor
namespace Go.Proofs.YtbijncndjlmmdaaGreatDoor
set_option linter.unusedVariables false
set_option linter.unusedSimpArgs false
open Go.RowKit
end Go.Proofs.YtbijncndjlmmdaaGreatDoor
namespace Go.Proofs.YtbijncndjlmmdaaGreatDoor
set_option linter.unusedVariables false
set_option linter.unusedSimpArgs false
open Go.RowKit
def PlO (q:Ar) (many:Int) (W:World) (e:Ending) (W':World):Prop:=
 ∃a n c,e=.returned (.tuple #[.slice a n c,.int .i64 (plE q many)])∧(plE q many=0→n=q.2.length∧Sl W' a n q.2∧n≤c∧c≤maxLen)∧Below W.heap.size W W'
theorem pl_far {q:Ar} {many:Int} (h:q.2.all nearM=false):plE q many=5:=by
 unfold plE;rw[if_pos h]
theorem pl_bad {q:Ar} {many:Int} (h:q.2.all nearM=true) {j:Nat} (hj:j<q.2.length) (h2:q.2.getD j 0<0∨many≤q.2.getD j 0):plE q many=6:=by
 unfold plE
 rw[h,if_neg (by simp),if_pos]
 refine⟨q.2[j],List.getElem_mem hj,?_⟩
 rw[List.getD_eq_getElem?_getD,List.getElem?_eq_getElem hj,Option.getD_some]at h2
 exact h2
theorem pl_all {q:Ar} {many:Int} (h:q.2.all nearM=true) (h2:∀j,j<q.2.length→¬(q.2.getD j 0<0∨many≤q.2.getD j 0)):plE q many=0:=by
 unfold plE
 rw[h,if_neg (by simp),if_neg]
 rintro⟨x,hx,hc⟩
 obtain⟨j,hj,rfl⟩:=List.getElem_of_mem hx
 have:=h2 j hj
 rw[List.getD_eq_getElem?_getD,List.getElem?_eq_getElem hj,Option.getD_some]at this
 exact this hc
theorem live_pl {P:World→Prop} {w:World} {f:FuncId} {args:Array Value} {q:Ar} {many:Int} (h:Lv P w) (hc:Calls Tryz.prog f args w (PlO q many w))
 (hs:Stb P:=by repeat' (first|exact Stb.bel _|exact Stb.bx|exact Stb.vl|exact Stb.sl|exact Stb.st|refine Stb.and ?_ ?_|exact Stb.triv)):
 Calls Tryz.prog f args w fun e w'=>∃a n c,e=.returned (.tuple #[.slice a n c,.int .i64 (plE q many)])∧(plE q many=0→n=q.2.length∧Sl w' a n q.2∧n≤c∧c≤maxLen)∧Lv P w':=
 hc.mono fun _ _ ⟨a,n,c,h1,h2,h3⟩=>⟨a,n,c,h1,h2,⟨hs _ _ h.out h3⟩⟩
end Go.Proofs.YtbijncndjlmmdaaGreatDoor
namespace Go.Proofs.YtbijncndjlmmdaaGreatDoor
set_option linter.unusedVariables false
set_option linter.unusedSimpArgs false
open Go.RowKit
theorem SVec_no {a1 b1:Option Addr} {n1 c1 m1 d1:Nat} {l:List Int} {es:List ByteArray} {W:World} (h1:Av W a1 n1 c1 b1 m1 d1 l es none):
 Calls Tryz.prog 149 #[.agg #[.slice a1 n1 c1,.slice b1 m1 d1]] W (IntEnd 1 W):=by
 have KV:=Lib.hid (fun w (hb:Below W.heap.size W w)=>VMay_av (h1.below hb))
 clear h1
 have h:=live10 W a1 n1 c1 b1 m1 d1
 go_enter Tryz.func149,Tryz.ntmps149
 have x1:=h.out.1.c0
 have y1:=h.out.1.c1
 go_wp2_with fail
 with_reducible refine(live h (KV.out _ h.out.2)).mono ?_
 clear h x1 y1
 rintro e w ⟨rfl,h⟩
 go_wp2_with fail
 go_ret
 exact⟨rfl,h.out.2⟩
theorem SVec_3 {a1 b1:Option Addr} {n1 c1 m1 d1:Nat} {l:List Int} {es:List ByteArray} {W:World} {q:Ar} (h1:Av W a1 n1 c1 b1 m1 d1 l es (some q)) (hc:n1≠1):
 Calls Tryz.prog 149 #[.agg #[.slice a1 n1 c1,.slice b1 m1 d1]] W (IntEnd 3 W):=by
 have KV:=Lib.hid (fun w (hb:Below W.heap.size W w)=>VMay_av (h1.below hb))
 have hn:(n1:Int)≠1:=by omega
 clear h1
 have h:=live10 W a1 n1 c1 b1 m1 d1
 go_enter Tryz.func149,Tryz.ntmps149
 have x1:=h.out.1.c0
 have y1:=h.out.1.c1
 go_wp2_with fail
 with_reducible refine(live h (KV.out _ h.out.2)).mono ?_
 clear h x1 y1
 rintro e w ⟨rfl,h⟩
 have x1:=h.out.1.c0
 have y1:=h.out.1.c1
 go_wp2_with fail
 go_ret
 exact⟨rfl,h.out.2⟩
theorem SVec_0 {a1 b1:Option Addr} {n1 c1 m1 d1:Nat} {l:List Int} {es:List ByteArray} {W:World} {q:Ar} (h1:Av W a1 n1 c1 b1 m1 d1 l es (some q)) (hc:n1=1):
 Calls Tryz.prog 149 #[.agg #[.slice a1 n1 c1,.slice b1 m1 d1]] W (IntEnd 0 W):=by
 have KV:=Lib.hid (fun w (hb:Below W.heap.size W w)=>VMay_av (h1.below hb))
 clear h1
 subst hc
 have h:=live10 W a1 1 c1 b1 m1 d1
 go_enter Tryz.func149,Tryz.ntmps149
 have x1:=h.out.1.c0
 have y1:=h.out.1.c1
 go_wp2_with fail
 with_reducible refine(live h (KV.out _ h.out.2)).mono ?_
 clear h x1 y1
 rintro e w ⟨rfl,h⟩
 have x1:=h.out.1.c0
 have y1:=h.out.1.c1
 go_wp2_with fail
 go_ret
 exact⟨rfl,h.out.2⟩
theorem SVec_is {a1 b1:Option Addr} {n1 c1 m1 d1:Nat} {l:List Int} {es:List ByteArray} {W:World} {o:Option Ar} (h1:Av W a1 n1 c1 b1 m1 d1 l es o):Calls Tryz.prog 149 #[.agg #[.slice a1 n1 c1,.slice b1 m1 d1]] W (IntEnd (vcE o) W):=by
 cases o with
 |none=>exact SVec_no h1
 |some q=>
  have hl:q.1.length=n1:=by rw[h1.fst];exact h1.v.s.1
  by_cases h:n1=1
  · have e:vcE (some q)=0:=by unfold vcE;dsimp only;rw[if_neg (by omega)]
    rw[e];exact SVec_0 h1 h
  · have e:vcE (some q)=3:=by unfold vcE;dsimp only;rw[if_pos (by omega)]
    rw[e];exact SVec_3 h1 h
theorem SPl_far {a1 b1:Option Addr} {n1 c1 m1 d1:Nat} {l:List Int} {es:List ByteArray} {W:World} {q:Ar} {many:Int} (h1:Av W a1 n1 c1 b1 m1 d1 l es (some q)) (hW:WT W) (hal:q.2.all nearM=false):
 Calls Tryz.prog 151 #[.agg #[.slice a1 n1 c1,.slice b1 m1 d1],.int .i64 many] W (PlO q many W):=by
 have KA:=Lib.hid (fun w (hb:Below W.heap.size W w)=>All_av (c:=c1) (d:=d1) (s:=l) w (by have:=h1.v;rw[h1.i.2.1]at this;exact this.below hb) h1.i.2.2.2 (by have:=h1.mlen.2.2;omega) (hW.below hb))
 have HE:=Lib.hid (pl_far (many:=many) hal)
 have hal2:=Lib.hid hal
 clear h1 hW hal
 have h:=live10 W a1 n1 c1 b1 m1 d1
 go_enter Tryz.func151,Tryz.ntmps151
 have x1:=h.out.1.c0
 have y1:=h.out.1.c1
 go_wp2_with fail
 refine(live_al h (KA.out _ h.out.2)).mono ?_
 clear h x1 y1
 rintro e w ⟨aa,na,ca,z,rfl,hz,h⟩
 have hz5:z=5:=by
  rcases hz with⟨g,_⟩|⟨_,g⟩
  · rw[hal2.out]at g;cases g
  · exact g
 subst hz5
 clear hz
 go_wp2_with fail
 go_ret2
 exact⟨none,0,0,by rw[HE.out];rfl,(fun h=>by rw[HE.out]at h;cases h),h.out.2⟩
theorem SPl_yes {a1 b1:Option Addr} {n1 c1 m1 d1:Nat} {l:List Int} {es:List ByteArray} {W:World} {q:Ar} {many:Int} (h1:Av W a1 n1 c1 b1 m1 d1 l es (some q)) (hW:WT W) (hal:q.2.all nearM=true):
 Calls Tryz.prog 151 #[.agg #[.slice a1 n1 c1,.slice b1 m1 d1],.int .i64 many] W (PlO q many W):=by
 have KA:=Lib.hid (fun w (hb:Below W.heap.size W w)=>All_av (c:=c1) (d:=d1) (s:=l) w (by have:=h1.v;rw[h1.i.2.1]at this;exact this.below hb) h1.i.2.2.2 (by have:=h1.mlen.2.2;omega) (hW.below hb))
 have HL:=Lib.hid h1.mlen.1.symm
 have hm4:=h1.mlen.2.2
 have hal2:=Lib.hid hal
 clear h1 hW hal
 have h:=live10 W a1 n1 c1 b1 m1 d1
 go_enter Tryz.func151,Tryz.ntmps151
 have x1:=h.out.1.c0
 have y1:=h.out.1.c1
 go_wp2_with fail
 refine(live_al h (KA.out _ h.out.2)).mono ?_
 clear h x1 y1
 rintro e w ⟨aa,na,ca,z,rfl,hz,h⟩
 obtain⟨rfl,hna,hS⟩:z=0∧na=m1∧Sl w aa na q.2∧na≤ca∧ca≤maxLen:=by
  rcases hz with⟨_,g1,g2,g3,g4,g5⟩|⟨g,_⟩
  · exact⟨g1,g2.trans HL.out,g3,g4,g5⟩
  · rw[hal2.out]at g;cases g
 subst hna
 have HS:=Lib.hid hS
 clear hz hS KA
 go_wp2_with fail
 go_loop [20] (fun iv=>∃k:Nat,iv=.int .i64 (k:Int)∧k≤na∧Hid (∀j,j<k→¬(q.2.getD j 0<0∨many≤q.2.getD j 0))) (fun iv=>na-(intOf iv).toNat)
 case atStart=>exact⟨0,rfl,Nat.zero_le _,Lib.hid fun j hj=>by omega⟩
 case round=>
  obtain⟨k,rfl,hk,HN⟩:=hrel
  by_cases hlt:k<na
  · have e2:(k:Int)<(na:Int):=by omega
    obtain⟨bb,off,rfl,hc⟩:=HS.out.1.2 (by omega)
    have hck:=hc k hlt
    have hg:=fun h2=>pl_bad (many:=many) hal2.out (j:=k) (by rw[HL.out];exact hlt) h2
    obtain⟨x,hx⟩:∃x,x=q.2.getD k 0:=⟨_,rfl⟩
    rw[←hx]at hck hg
    have HXX:=Lib.hid hx
    clear hc hx
    by_cases h0:x<0
    · have HE:=Lib.hid (hg (.inl h0))
      clear hg
      go_wp2_with fail
      go_ret2
      exact⟨none,0,0,by rw[HE.out];rfl,(fun h=>by rw[HE.out]at h;cases h),h.out.2⟩
    · by_cases h2:many≤x
      · have HE:=Lib.hid (hg (.inr h2))
        clear hg
        go_wp2_with fail
        go_ret2
        exact⟨none,0,0,by rw[HE.out];rfl,(fun h=>by rw[HE.out]at h;cases h),h.out.2⟩
      · clear hg
        go_wp2_with fail
        go_round
        case rel=>exact⟨k+1,by go_num,by omega,Lib.hid fun j hj=>by
         by_cases e:j=k
         · rw[e,←HXX.out];exact fun h=>h.elim h0 h2
         · exact HN.out j (by omega)⟩
        case measure=>simp[intOf];omega
  · have e2:¬(k:Int)<(na:Int):=by omega
    obtain rfl:k=na:=by omega
    have HE:=Lib.hid (pl_all (many:=many) hal2.out fun j hj=>HN.out j (by rw[HL.out]at hj;exact hj))
    go_wp2_with fail
    go_ret2
    exact⟨aa,k,ca,by rw[HE.out];rfl,(fun _=>⟨HL.out.symm,HS.out⟩),h.out.2⟩
theorem SPlaces_is {a1 b1:Option Addr} {n1 c1 m1 d1:Nat} {l:List Int} {es:List ByteArray} {W:World} {q:Ar} (many:Int) (h1:Av W a1 n1 c1 b1 m1 d1 l es (some q)) (hW:WT W):Calls Tryz.prog 151 #[.agg #[.slice a1 n1 c1,.slice b1 m1 d1],.int .i64 many] W (PlO q many W):=by
 rcases Bool.eq_false_or_eq_true (q.2.all nearM)with ha|ha
 · exact SPl_yes h1 hW ha
 · exact SPl_far h1 hW ha
theorem SFirsts_is (a:Option Addr) (n c:Nat) (es:List ByteArray) (W:World) (h:St W a n es) (hz:∀j,j<n→(es.getD j ByteArray.empty).size≤maxLen) (hn:n≤100000):
 Calls Tryz.prog 150 #[.slice a n c] W (FsEnd es W):=by
 have hmm:=@run_makeMap Tryz.prog
 have HS:=Lib.hid h
 have HL:=Lib.hid h.1
 have HZ:=Lib.hid hz
 have hb0:=Lib.hid ((Below.refl W.heap.size W).alloc (Nat.le_refl _) (.map #[] 0))
 have ho0:=Lib.hid (World.ownsMap_made (H:=Unit) W Tryz.prog 9 (plainElem Tryz.prog 3))
 clear h hz
 go_enter Tryz.func150,Tryz.ntmps150
 go_wp2_with fail
 go_loopw [11] (fun iv wr=>∃(i:Nat) (D:DataW Unit),iv=.int .i64 (i:Int)∧i≤n∧wr.ownsMap Tryz.prog 9 (plainElem Tryz.prog 3) W.heap.size i D∧Hid (FstD D (es.take i))∧Below W.heap.size W wr) (fun iv _=>n-(intOf iv).toNat)
 case atStart=>exact⟨0,_,rfl,Nat.zero_le _,ho0.out,Lib.hid FstD.nil,hb0.out⟩
 case round=>
  obtain⟨i,D,rfl,hi,hown,HD,hb⟩:=hrel
  by_cases hlt:i<n
  · have e2:(i:Int)<(n:Int):=by omega
    obtain⟨bb,off,rfl,hc⟩:=HS.out.2 (by omega)
    have hck:=(hb.cell (p:=⟨bb,off+i,none⟩) (World.block_lt_of_cell? W _ (hc i hlt))).trans (hc i hlt)
    obtain⟨s,hs⟩:∃s,s=es.getD i ByteArray.empty:=⟨_,rfl⟩
    have hsz:=HZ.out i hlt
    rw[←hs]at hck hsz
    have hkey:keyOf Tryz.prog 9 (.string s)=some (.string s.data.toList):=Go.WideMaps.keyOf_string_mk Tryz.underlying9 hsz
    have HT:Hid (es.take (i+1)=es.take i++[s]):=Lib.hid (by
     rw[List.take_succ_eq_append_getElem (by rw[HL.out];exact hlt),hs,List.getD_eq_getElem?_getD,List.getElem?_eq_getElem (by rw[HL.out];exact hlt)];rfl)
    have HOw:=Lib.hid hown
    have HBl:=Lib.hid hb
    have htl:(es.take i).length=i:=by rw[List.length_take,HL.out];omega
    have HTL:=Lib.hid htl
    clear hc hs hsz htl hb hown
    by_cases hin:s∈es.take i
    · have hh:Maps.has D (.string s.data.toList)=true:=HD.out.yes hin
      have HIN:=Lib.hid hin
      clear hin
      go_wp2_with (first|(at_lookup;refine wpList_lookup_own_ok_int _ rfl _ _ 125 rfl 9 3 .i64 fkeyed Tryz.underlying125 Tryz.underlying3 (fzero _) W.heap.size i D rfl HOw.out _ _ rfl hkey ?_;intro cc hat hwc)|fail)
      go_roundw
      case rel=>exact⟨i+1,D,by go_num,by omega,HOw.out.mono (Nat.le_succ i),Lib.hid (by rw[HT.out];exact HD.out.old HIN.out),HBl.out⟩
      case measure=>simp[intOf];omega
    · have hh:Maps.has D (.string s.data.toList)=false:=HD.out.no hin
      have HIN:=Lib.hid hin
      clear hin
      have HP:=Lib.hid (plainElem_int (H:=Unit) (P:=Tryz.prog) (e:=3) (q:=.i64) Tryz.underlying3 (a:=(i:Int)) (WalkArith.wf_i64 (by omega)))
      go_wp2_with (first|(at_lookup;refine wpList_lookup_own_ok_int _ rfl _ _ 125 rfl 9 3 .i64 fkeyed Tryz.underlying125 Tryz.underlying3 (fzero _) W.heap.size i D rfl HOw.out _ _ rfl hkey ?_;intro cc hat hwc)|(at_mapUpdate;refine wpList_mapUpdate_own _ rfl _ _ _ 125 rfl 9 3 fkeyed Tryz.underlying125 _ W.heap.size i D rfl HOw.out (by unfold maxLen;omega) _ _ _ rfl rfl hkey _ [] HP.out ?_;intro w1 hown1 hgrow1)|fail)
      have hb1:=HBl.out.grown hgrow1 HBl.out.size (fun j hj=>by cases hj;exact Nat.le_refl _)
      have HD1:=HD.out.new (HOw.out.isMap) HIN.out
      rw[HTL.out,←HT.out]at HD1
      have HD2:=Lib.hid HD1
      clear hgrow1 HD1
      go_wp2_with fail
      go_roundw
      case rel=>exact⟨i+1,_,by go_num,by omega,hown1,HD2,hb1⟩
      case measure=>simp[intOf];omega
  · have e2:¬(i:Int)<(n:Int):=by omega
    obtain rfl:i=n:=by omega
    have HF:Hid (Fst wr W.heap.size i es):=Lib.hid ⟨D,hown,by have:=HD.out;rwa [List.take_of_length_le (by rw[HL.out];exact Nat.le_refl _)]at this⟩
    have HBl:=Lib.hid hb
    clear hown hb
    go_wp2_with fail
    go_ret
    exact⟨_,rfl,by rw[HL.out];exact HF.out,HBl.out⟩
end Go.Proofs.YtbijncndjlmmdaaGreatDoor

import Derived.Test.YtcfbjdplhgdpfaaGreatDoorMaj
import Derived.Maps.Own
import Derived.StringKeys
import Derived.Lib.OthersKept
import Derived.Laws.Runes
set_option maxHeartbeats 800000
set_option maxRecDepth 10000
namespace Go.Proofs.YtcfbjdplhgdpfaaGreatDoor
set_option linter.unusedVariables false
set_option linter.unusedSimpArgs false
open Go.RowKit
def OpPost (z:Int) (w:World) (e:Ending) (w':World):Prop:=e=.returned (.tuple #[.string (toldR z),.int .i64 (toldE z)])∧Below w.heap.size w w'
theorem Add_yes (x y:Int) (w:World) (hx:x.natAbs<lim) (hy:y.natAbs<lim) (htab:Tab w):Calls Tryz.prog 200 #[.string (S x),.string (S y)] w (OpPost (x+y) w):=by
 have hT:=together_yes 222 (enters_of Tryz.func222 (by kernel_rfl) rfl) x y _ _ w hx hy htab (add_does x y hx hy)
 have HT:=Lib.hid hT
 obtain⟨r,hr⟩:∃r,r=toldR (x+y):=⟨_,rfl⟩
 obtain⟨ec,hec⟩:∃r,r=toldE (x+y):=⟨_,rfl⟩
 rw[←hr,←hec]at HT
 have HE:=Lib.hid (And.intro hr hec)
 clear hT hr hec hx hy
 go_enter Tryz.func200,Tryz.ntmps200
 go_wp2_with fail
 refine HT.out.mono ?_
 rintro e w1 ⟨rfl,hb⟩
 go_wp2_with fail
 go_ret2
 exact⟨by rw[←HE.out.1,←HE.out.2];rfl,hb⟩
theorem Add_no (s t:ByteArray) (w:World) (hs:s.size≤maxLen) (ht:t.size≤maxLen) (h:(mayL s.data.toList&&mayL t.data.toList)=false):Calls Tryz.prog 200 #[.string s,.string t] w (ArgNo w):=by
 have hT:=fun fv=>together_no fv s t w hs ht h
 have HT:=Lib.hid hT
 clear hT h
 go_enter Tryz.func200,Tryz.ntmps200
 go_wp2_with fail
 refine(HT.out _).mono ?_
 rintro e w1 ⟨rfl,hb⟩
 go_wp2_with fail
 go_ret2
 exact⟨rfl,hb⟩
theorem Sub_yes (x y:Int) (w:World) (hx:x.natAbs<lim) (hy:y.natAbs<lim) (htab:Tab w):Calls Tryz.prog 201 #[.string (S x),.string (S y)] w (OpPost (x-y) w):=by
 have hT:=together_yes 225 (enters_of Tryz.func225 (by kernel_rfl) rfl) x y _ _ w hx hy htab (sub_does x y hx hy)
 have HT:=Lib.hid hT
 obtain⟨r,hr⟩:∃r,r=toldR (x-y):=⟨_,rfl⟩
 obtain⟨ec,hec⟩:∃r,r=toldE (x-y):=⟨_,rfl⟩
 rw[←hr,←hec]at HT
 have HE:=Lib.hid (And.intro hr hec)
 clear hT hr hec hx hy
 go_enter Tryz.func201,Tryz.ntmps201
 go_wp2_with fail
 refine HT.out.mono ?_
 rintro e w1 ⟨rfl,hb⟩
 go_wp2_with fail
 go_ret2
 exact⟨by rw[←HE.out.1,←HE.out.2];rfl,hb⟩
theorem Sub_no (s t:ByteArray) (w:World) (hs:s.size≤maxLen) (ht:t.size≤maxLen) (h:(mayL s.data.toList&&mayL t.data.toList)=false):Calls Tryz.prog 201 #[.string s,.string t] w (ArgNo w):=by
 have hT:=fun fv=>together_no fv s t w hs ht h
 have HT:=Lib.hid hT
 clear hT h
 go_enter Tryz.func201,Tryz.ntmps201
 go_wp2_with fail
 refine(HT.out _).mono ?_
 rintro e w1 ⟨rfl,hb⟩
 go_wp2_with fail
 go_ret2
 exact⟨rfl,hb⟩
theorem Mul_yes (x y:Int) (w:World) (hx:x.natAbs<lim) (hy:y.natAbs<lim) (htab:Tab w):Calls Tryz.prog 202 #[.string (S x),.string (S y)] w (OpPost (x*y) w):=by
 have hT:=together_yes 226 (enters_of Tryz.func226 (by kernel_rfl) rfl) x y _ _ w hx hy htab (mul_does x y hx hy)
 have HT:=Lib.hid hT
 obtain⟨r,hr⟩:∃r,r=toldR (x*y):=⟨_,rfl⟩
 obtain⟨ec,hec⟩:∃r,r=toldE (x*y):=⟨_,rfl⟩
 rw[←hr,←hec]at HT
 have HE:=Lib.hid (And.intro hr hec)
 clear hT hr hec hx hy
 go_enter Tryz.func202,Tryz.ntmps202
 go_wp2_with fail
 refine HT.out.mono ?_
 rintro e w1 ⟨rfl,hb⟩
 go_wp2_with fail
 go_ret2
 exact⟨by rw[←HE.out.1,←HE.out.2];rfl,hb⟩
theorem Mul_no (s t:ByteArray) (w:World) (hs:s.size≤maxLen) (ht:t.size≤maxLen) (h:(mayL s.data.toList&&mayL t.data.toList)=false):Calls Tryz.prog 202 #[.string s,.string t] w (ArgNo w):=by
 have hT:=fun fv=>together_no fv s t w hs ht h
 have HT:=Lib.hid hT
 clear hT h
 go_enter Tryz.func202,Tryz.ntmps202
 go_wp2_with fail
 refine(HT.out _).mono ?_
 rintro e w1 ⟨rfl,hb⟩
 go_wp2_with fail
 go_ret2
 exact⟨rfl,hb⟩
theorem Cmp_yes (x y:Int) (w:World) (hx:x.natAbs<lim) (hy:y.natAbs<lim):Calls Tryz.prog 208 #[.string (S x),.string (S y)] w (CmpPost (cmpI x y) w):=by
 have hR:=fun w=>read_yes x w hx
 have hR':=fun w=>read_yes y w hy
 have HR:=Lib.hid hR
 have HR':=Lib.hid hR'
 obtain⟨q,hq⟩:∃q,q=x.sign:=⟨_,rfl⟩
 obtain⟨q',hq'⟩:∃q,q=y.sign:=⟨_,rfl⟩
 obtain⟨z,hz⟩:∃z,z=cmpI x y:=⟨_,rfl⟩
 have HQ:=Lib.hid (And.intro hq hq')
 have hF:=fun P P' l l' c c' w1 hA hB ol om nl nm (hv:val l=x.natAbs) (hv':val l'=y.natAbs)=>against_any x y P P' l l' c c' w1 hA hB ol om nl nm hv hv' (Nat.le_trans (vals_len nl hv hx) (by decide)) (Nat.le_trans (vals_len nm hv' hy) (by decide))
 rw[←hq,←hq',←hz]at hF
 have HF:=Lib.hid hF
 have HZ:=Lib.hid hz
 clear hR hR' hF hq hq' hx hy hz
 go_enter Tryz.func208,Tryz.ntmps208
 go_wp2_with fail
 refine(HR.out _).mono ?_
 rintro e w1 ⟨P,l,c,rfl,⟨hP,ok,nm,hv⟩,hb⟩
 rw[←HQ.out.1]
 have hN:=Nb.new w1 q P l.length c
 have hb1:=hb.alloc hb.size (.cells #[.int .i64 q,.slice P l.length c] 200)
 have hP1:=hP.below ((Below.refl _ _).alloc (Nat.le_refl _) (.cells #[.int .i64 q,.slice P l.length c] 200))
 go_wp2_with fail
 refine(HR'.out _).mono ?_
 rintro e w2 ⟨P',l',c',rfl,⟨hP',ok',nm',hv'⟩,hb'⟩
 rw[←HQ.out.2]
 have hN2:=hN.below hb' hN.lt
 have hP2:=hP1.below hb'
 have hb2:=hb1.trans (hb'.mono hb1.size)
 have k0:=hN2.c0
 have k1:=hN2.c1
 have hb3:=hb2.alloc hb2.size (.cells #[.int .i64 q',.slice P' l'.length c'] 200)
 have hP3:=hP2.below ((Below.refl _ _).alloc (Nat.le_refl _) (.cells #[.int .i64 q',.slice P' l'.length c'] 200))
 have hP3':=hP'.below ((Below.refl _ _).alloc (Nat.le_refl _) (.cells #[.int .i64 q',.slice P' l'.length c'] 200))
 have hN3:=hN2.alloc (.cells #[.int .i64 q',.slice P' l'.length c'] 200)
 have m0:=hN3.c0
 have m1:=hN3.c1
 clear hN hN2 hb hb' hb1
 go_wp2_with fail
 refine(HF.out P P' l l' c c' _ hP3 hP3' ok ok' nm nm' hv hv').mono ?_
 rintro e w4 ⟨rfl,hb4⟩
 go_wp2_with fail
 go_ret
 exact⟨ret_int HZ.out,hb3.trans (hb4.mono hb3.size)⟩
theorem Cmp_no (s t:ByteArray) (w:World) (hs:s.size≤maxLen) (ht:t.size≤maxLen) (h:(mayL s.data.toList&&mayL t.data.toList)=false):Calls Tryz.prog 208 #[.string s,.string t] w (CmpPost 0 w):=by
 have hR:=fun w=>read_any s w hs
 have hR':=fun w=>read_any t w ht
 obtain⟨b1,hb1⟩:∃b,b=mayL s.data.toList:=⟨_,rfl⟩
 obtain⟨b2,hb2⟩:∃b,b=mayL t.data.toList:=⟨_,rfl⟩
 rw[←hb1]at hR h
 rw[←hb2]at hR' h
 have HR:=Lib.hid hR
 have HR':=Lib.hid hR'
 clear hR hR' hb1 hb2
 cases b1
 · clear h
   go_enter Tryz.func208,Tryz.ntmps208
   go_wp2_with fail
   refine(HR.out _).mono ?_
   rintro e w1 ⟨q,P,n,c,rfl,hb⟩
   have hb1:=hb.alloc hb.size (.cells #[.int .i64 q,.slice P n c] 200)
   go_wp2_with fail
   refine(HR'.out _).mono ?_
   rintro e w2 ⟨q',P',n',c',rfl,hb'⟩
   have hb2:=hb1.trans (hb'.mono hb1.size)
   go_wp2_with fail
   go_ret
   exact⟨rfl,hb2.alloc hb2.size _⟩
 · have h2:b2=false:=by simpa using h
   subst h2
   clear h
   go_enter Tryz.func208,Tryz.ntmps208
   go_wp2_with fail
   refine(HR.out _).mono ?_
   rintro e w1 ⟨q,P,n,c,rfl,hb⟩
   have hb1:=hb.alloc hb.size (.cells #[.int .i64 q,.slice P n c] 200)
   go_wp2_with fail
   refine(HR'.out _).mono ?_
   rintro e w2 ⟨q',P',n',c',rfl,hb'⟩
   have hb2:=hb1.trans (hb'.mono hb1.size)
   go_wp2_with fail
   go_ret
   exact⟨rfl,hb2.alloc hb2.size _⟩
theorem Of_any (n:Int) (h0: -9223372036854775808≤n) (h1:n≤9223372036854775807) (w:World) (htab:Tab w):Calls Tryz.prog 45 #[.int .i64 n] w fun e w'=>e=.returned (.string (S n))∧Below w.heap.size w w':=by
 have hF:=Tryz.strconv_FormatInt_10 n h0 h1 w htab.is
 have HF:=Lib.hid hF
 clear hF h0 h1
 go_enter Tryz.func45,Tryz.ntmps45
 go_wp2_with fail
 refine HF.out.mono ?_
 rintro e w1 ⟨rfl,k,os,rfl⟩
 go_wp2_with fail
 go_ret
 exact⟨rfl,Lib.below_grow _ w (Nat.le_refl _) k os⟩
end Go.Proofs.YtcfbjdplhgdpfaaGreatDoor
namespace Go.Proofs.YtcfbjdplhgdpfaaGreatDoor
set_option linter.unusedVariables false
set_option linter.unusedSimpArgs false
open Go.RowKit
def Is (s:ByteArray):Option Int→Prop
 |some x=>s=S x∧x.natAbs<lim
 |none=>mayL s.data.toList=false∧s.size≤maxLen
def T:Option Int→ByteArray
 |some x=>S x
 |none=>⟨#[]⟩
theorem Is.size {s:ByteArray} {o:Option Int} (h:Is s o):s.size≤maxLen:=by
 cases o with
 |none=>exact h.2
 |some x=>rw[h.1];exact Nat.le_trans (S_size h.2) (by decide)
theorem Is.may {s:ByteArray} {o:Option Int} (h:Is s o):mayL s.data.toList=o.isSome:=by
 cases o with
 |none=>exact h.1
 |some x=>rw[h.1];exact(mayL_itoa x).2 h.2
theorem S_inj {x y:Int} (h:S x=S y):x=y:=by
 apply itoa_inj
 have:=congrArg (fun s:ByteArray=>s.data.toList) h
 simpa[S]using this
def op (f:Int→Int→Int):Option Int→Option Int→Option Int
 |some x,some y=>if(f x y).natAbs<lim then some (f x y)else none
 |_,_=>none
def opE (f:Int→Int→Int):Option Int→Option Int→Int
 |some x,some y=>toldE (f x y)
 |_,_=>1
theorem op_told (f:Int→Int→Int) (x y:Int):T (op f (some x) (some y))=toldR (f x y):=by
 simp only[op,toldR];split<;>rfl
def OptPost (r:Option Int) (ec:Int) (w:World) (e:Ending) (w':World):Prop:=e=.returned (.tuple #[.string (T r),.int .i64 ec])∧Below w.heap.size w w'
theorem OpPost.opt {f:Int→Int→Int} {x y:Int} {w:World} {e:Ending} {w':World} (h:OpPost (f x y) w e w'):OptPost (op f (some x) (some y)) (opE f (some x) (some y)) w e w':=by
 unfold OptPost;rw[op_told];exact h
theorem ArgNo.opt {f:Int→Int→Int} {o p:Option Int} {w:World} {e:Ending} {w':World} (hn:(o.isSome&&p.isSome)=false) (h:ArgNo w e w'):OptPost (op f o p) (opE f o p) w e w':=by
 cases o<;>cases p<;>first|exact h|exact absurd hn (by simp)
theorem two_no {s t:ByteArray} {o p:Option Int} (hs:Is s o) (ht:Is t p) (hn:(o.isSome&&p.isSome)=false):(mayL s.data.toList&&mayL t.data.toList)=false:=by rw[hs.may,ht.may];exact hn
theorem Add_opt {s t:ByteArray} {o p:Option Int} (w:World) (hs:Is s o) (ht:Is t p) (htab:Tab w):Calls Tryz.prog 200 #[.string s,.string t] w (OptPost (op (fun x y=>x+y) o p) (opE (fun x y=>x+y) o p) w):=by
 cases hn:(o.isSome&&p.isSome)
 · exact(Add_no s t w hs.size ht.size (two_no hs ht hn)).mono fun e w' h=>ArgNo.opt hn h
 · cases o<;>cases p<;>simp at hn
   rw[hs.1,ht.1]
   exact(Add_yes _ _ w hs.2 ht.2 htab).mono fun e w' h=>OpPost.opt (f:=fun x y=>x+y) h
theorem Sub_opt {s t:ByteArray} {o p:Option Int} (w:World) (hs:Is s o) (ht:Is t p) (htab:Tab w):Calls Tryz.prog 201 #[.string s,.string t] w (OptPost (op (fun x y=>x-y) o p) (opE (fun x y=>x-y) o p) w):=by
 cases hn:(o.isSome&&p.isSome)
 · exact(Sub_no s t w hs.size ht.size (two_no hs ht hn)).mono fun e w' h=>ArgNo.opt hn h
 · cases o<;>cases p<;>simp at hn
   rw[hs.1,ht.1]
   exact(Sub_yes _ _ w hs.2 ht.2 htab).mono fun e w' h=>OpPost.opt (f:=fun x y=>x-y) h
theorem Mul_opt {s t:ByteArray} {o p:Option Int} (w:World) (hs:Is s o) (ht:Is t p) (htab:Tab w):Calls Tryz.prog 202 #[.string s,.string t] w (OptPost (op (fun x y=>x*y) o p) (opE (fun x y=>x*y) o p) w):=by
 cases hn:(o.isSome&&p.isSome)
 · exact(Mul_no s t w hs.size ht.size (two_no hs ht hn)).mono fun e w' h=>ArgNo.opt hn h
 · cases o<;>cases p<;>simp at hn
   rw[hs.1,ht.1]
   exact(Mul_yes _ _ w hs.2 ht.2 htab).mono fun e w' h=>OpPost.opt (f:=fun x y=>x*y) h
def cmpO:Option Int→Option Int→Int
 |some x,some y=>cmpI x y
 |_,_=>0
theorem Cmp_opt {s t:ByteArray} {o p:Option Int} (w:World) (hs:Is s o) (ht:Is t p):Calls Tryz.prog 208 #[.string s,.string t] w (CmpPost (cmpO o p) w):=by
 cases hn:(o.isSome&&p.isSome)
 · refine(Cmp_no s t w hs.size ht.size (two_no hs ht hn)).mono fun e w' h=> ?_
   cases o<;>cases p<;>first|exact h|exact absurd hn (by simp)
 · cases o<;>cases p<;>simp at hn
   rw[hs.1,ht.1]
   exact Cmp_yes _ _ w hs.2 ht.2
def sgnO:Option Int→Int
 |some x=>x.sign
 |none=>0
theorem Sign_opt {s:ByteArray} {o:Option Int} (w:World) (hs:Is s o):Calls Tryz.prog 198 #[.string s] w (CmpPost (sgnO o) w):=by
 cases o with
 |none=>exact sign_no s w hs.2 hs.1
 |some x=>rw[hs.1];exact sign_yes x w hs.2
theorem May_opt {s:ByteArray} {o:Option Int} (w:World) (hs:Is s o):Calls Tryz.prog 44 #[.string s] w (MayPost o.isSome w):=by
 rw[←hs.may];exact may_any s w hs.size
def negO:Option Int→Option Int
 |some x=>some (-x)
 |none=>none
theorem Neg_opt {s:ByteArray} {o:Option Int} (w:World) (hs:Is s o) (htab:Tab w):Calls Tryz.prog 195 #[.string s] w fun e w'=>e=.returned (.string (T (negO o)))∧Below w.heap.size w w':=by
 cases o with
 |none=>exact neg_no s w hs.2 hs.1
 |some x=>rw[hs.1];exact neg_yes x w hs.2 htab
end Go.Proofs.YtcfbjdplhgdpfaaGreatDoor
namespace Go.Proofs.YtcfbjdplhgdpfaaGreatDoor
set_option linter.unusedVariables false
set_option linter.unusedSimpArgs false
open Go.RowKit Go.Maps Go.MapKept
open Go.ChangeMaps (setBlock heap_setBlock_same heap_setBlock_other)
def Mq (W:World) (b:Nat) (l:List (Value×Value)):Prop:=∃es clock,W.heap[b]?=some (.map es clock)∧es.toList.map (fun e=>(e.key,e.val))=l
theorem Mq.lt {W:World} {b:Nat} {l:List (Value×Value)} (h:Mq W b l):b<W.heap.size:=by
 obtain⟨es,clock,hb,_⟩:=h
 exact(Array.getElem?_eq_some_iff.1 hb).1
theorem Mq.below {W W':World} {b:Nat} {l:List (Value×Value)} (h:Mq W b l) (hb:Below W.heap.size W W'):Mq W' b l:=by
 have hlt:=h.lt
 obtain⟨es,clock,he,hm⟩:=h
 exact⟨es,clock,(hb.block b hlt).trans he,hm⟩
theorem Mq.made (W:World):Mq (W.alloc (.map #[] 0)) W.heap.size []:=⟨#[],0,(MapKept.heap_alloc W _).1,rfl⟩
theorem Mq.mem {es:Array MapEntry} {l:List (Value×Value)} (h:es.toList.map (fun e=>(e.key,e.val))=l) {e:MapEntry} (he:e∈es.toList):(e.key,e.val)∈l:=by
 rw[←h]
 exact List.mem_map.2 ⟨e,he,rfl⟩
theorem Mq.put {P:Program} {w:World} {t k e:TypeId} {b:Nat} {l:List (Value×Value)} (ht:P.underlying t=some (.map k e)) (K:Keyed P k) (h:Mq w b l) {x:Value} {lx:Lit} (hkey:keyOf P k x=some lx) (v:Value)
 (hl:∀p∈l,∃m,keyOf P k p.1=some m) (hx:∀p∈l,p.1≠x):∃w',(Instr.mapUpdate t (.map (some b)) x v).run P w=.ok () w'∧Mq w' b (l++[(x,v)])∧w.grownBy w' (some b):=by
 obtain⟨es,clock,hb,hm⟩:=h
 rcases K.find w hkey es.toList (fun y hy=>hl _ (Mq.mem hm hy))with⟨h1,h2⟩|⟨j,e0,h1,h2,h3⟩
 · refine⟨setBlock w b (.map (es.push ⟨x,v,clock⟩) (clock+1)),?_,⟨_,_,heap_setBlock_same hb _,?_⟩,⟨rfl,rfl,rfl,by simp[setBlock],fun i _ hi=>heap_setBlock_other hb _ (fun e=>hi (by rw[e]))⟩⟩
   · have hs:=K.stays w hkey
     simp[Instr.mapUpdate,run_underlying ht,MapKept.run_getObj_map hb,K.check w false hkey,h1,MapKept.run_setObj_map _ hb,Result.andThen,setBlock]
   · rw[Array.toList_push,List.map_append,hm];rfl
 · exact absurd h3 (hx _ (Mq.mem hm (List.mem_of_getElem? h2)))
theorem Mq.look {P:Program} {w:World} {t k e:TypeId} {b:Nat} {l:List (Value×Value)} (ht:P.underlying t=some (.map k e)) (K:Keyed P k) (h:Mq w b l) {x:Value} {lx:Lit} (hkey:keyOf P k x=some lx) {v:Value} (ok:Bool)
 (hl:∀p∈l,∃m,keyOf P k p.1=some m) (hm:∃v',(x,v')∈l) (hu:∀p∈l,p.1=x→p.2=v):(Instr.lookup t (.map (some b)) x ok).run P w=.ok (if ok then .tuple #[v,.bool true]else v) w:=by
 obtain⟨es,clock,hb,he⟩:=h
 rcases K.find w hkey es.toList (fun y hy=>hl _ (Mq.mem he hy))with⟨h1,h2⟩|⟨j,e0,h1,h2,h3⟩
 · exfalso
   obtain⟨v',hm⟩:=hm
   rw[←he]at hm
   obtain⟨y,hy,e1⟩:=List.mem_map.1 hm
   injection e1 with e1 _
   exact h2 y hy e1
 · have hv:e0.val=v:=hu _ (Mq.mem he (List.mem_of_getElem? h2)) h3
   simp[Instr.lookup,run_underlying ht,MapKept.run_getObj_map hb,K.check w _ hkey,h1,Result.andThen,hv]
theorem Mq.miss {P:Program} {w:World} {t k e:TypeId} {b:Nat} {l:List (Value×Value)} (ht:P.underlying t=some (.map k e)) (K:Keyed P k) (h:Mq w b l) {x:Value} {lx:Lit} (hkey:keyOf P k x=some lx) {z:Value} (ok:Bool)
 (hz:(zeroValue e).run P w=.ok z w) (hl:∀p∈l,∃m,keyOf P k p.1=some m) (hx:∀p∈l,p.1≠x):(Instr.lookup t (.map (some b)) x ok).run P w=.ok (if ok then .tuple #[z,.bool false]else z) w:=by
 obtain⟨es,clock,hb,he⟩:=h
 rcases K.find w hkey es.toList (fun y hy=>hl _ (Mq.mem he hy))with⟨h1,h2⟩|⟨j,e0,h1,h2,h3⟩
 · simp[Instr.lookup,run_underlying ht,MapKept.run_getObj_map hb,K.check w _ hkey,h1,hz,Result.andThen]
 · exact absurd h3 (hx _ (Mq.mem he (List.mem_of_getElem? h2)))
theorem wpList_mput {P:Program} (w:World) {ops:Array Oper} {rest:List Oper} {o:Oper} {a:Act} {Q:Exit→Act→World→Prop}
 (hg:o.guard=none) (m x v:Operand) (t:TypeId) (hop:o.op=Op.insert t m x v) (k e:TypeId) (ht:P.underlying t=some (.map k e)) (K:Keyed P k) (b:Nat) (l:List (Value×Value))
 (hm:a.eval m=.map (some b)) (h:Mq w b l) (z u:Value) (hx:a.eval x=z) (hv:a.eval v=u) (lz:Lit) (hkey:keyOf P k z=some lz) (hl:∀p∈l,∃m,keyOf P k p.1=some m) (hne:∀p∈l,p.1≠z)
 (hK:∀w',Mq w' b (l++[(z,u)])→w.grownBy w' (some b)→wpList P ops Q rest (a.put o.dst undef) w'):wpList P ops Q (o::rest) a w:=by
 refine wpList_plain hg fun K' hK'=> ?_
 obtain⟨w',hrun,r1,r2⟩:=h.put ht K hkey u hl hne
 unfold Oper.wp
 simp[execOp,hop,hm,hx,hv,hrun,Result.andThen]
 exact hK' _ _ (hK w' r1 r2)
theorem mgrown {B b:Nat} {w0 w w':World} (h:Below B w0 w) (hg:w.grownBy w' (some b)) (hB:B≤b) (hs:B≤w.heap.size):Below B w0 w':=
 ⟨hg.os.trans h.os,hg.tape.trans h.tape,hg.output.trans h.output,Nat.le_trans h.size hg.size,fun i hi=>(hg.block i (by omega) (fun e=>by injection e with e;omega)).trans (h.block i hi)⟩
end Go.Proofs.YtcfbjdplhgdpfaaGreatDoor
namespace Go.Proofs.YtcfbjdplhgdpfaaGreatDoor
set_option linter.unusedVariables false
set_option linter.unusedSimpArgs false
open Go.RowKit Go.Maps Go.MapKept Go.WideMaps
def sq (l:List (ByteArray×Value)):List (Value×Value):=l.map fun p=>(.string p.1,p.2)
theorem sq_snoc (l:List (ByteArray×Value)) (z:ByteArray) (v:Value):sq l++[(.string z,v)]=sq (l++[(z,v)]):=by simp[sq]
def shK (l:List (ByteArray×Value)):Bool:=l.all fun p=>decide (p.1.size≤16)
def finK (l:List (ByteArray×Value)) (z:ByteArray):List Value:=(l.filter fun p=>p.1.data.toList==z.data.toList).map (·.2)
theorem text_eq {a b:ByteArray} (h:a.data.toList=b.data.toList):a=b:=by
 obtain⟨⟨a⟩⟩:=a
 obtain⟨⟨b⟩⟩:=b
 have h:a=b:=h
 rw[h]
section
variable {P:Program} {k:TypeId} {l:List (ByteArray×Value)} {z:ByteArray} {v:Value}
theorem keys_ok (hk:P.underlying k=some .string) (h:shK l=true):∀p∈sq l,∃m,keyOf P k p.1=some m:=by
 intro p hp
 obtain⟨q,hq,rfl⟩:=List.mem_map.1 hp
 have:=of_decide_eq_true (List.all_eq_true.1 h q hq)
 exact⟨_,keyOf_string_mk hk (by unfold maxLen;omega)⟩
theorem fin_no (h:finK l z=[]):∀p∈sq l,p.1≠ .string z:=by
 intro p hp e
 obtain⟨q,hq,rfl⟩:=List.mem_map.1 hp
 injection e with e
 have:q∈l.filter fun p=>p.1.data.toList==z.data.toList:=List.mem_filter.2 ⟨hq,by rw[e];exact beq_self_eq_true _⟩
 have g:=List.mem_map_of_mem (f:=fun p:ByteArray×Value=>p.2) this
 rw[show(l.filter fun p=>p.1.data.toList==z.data.toList).map (fun p=>p.2)=[]from h]at g
 cases g
theorem fin_yes (h:finK l z=[v]):(∃v',(.string z,v')∈sq l)∧∀p∈sq l,p.1=.string z→p.2=v:=by
 constructor
 · obtain⟨q,hq⟩:=List.exists_mem_of_ne_nil (l.filter fun p=>p.1.data.toList==z.data.toList) (fun e=>by unfold finK at h;rw[e]at h;cases h)
   obtain⟨h1,h2⟩:=List.mem_filter.1 hq
   exact⟨q.2,List.mem_map.2 ⟨q,h1,by rw[text_eq (eq_of_beq h2)]⟩⟩
 · intro p hp e
   obtain⟨q,hq,rfl⟩:=List.mem_map.1 hp
   injection e with e
   have:q∈l.filter fun p=>p.1.data.toList==z.data.toList:=List.mem_filter.2 ⟨hq,by rw[e];exact beq_self_eq_true _⟩
   have g:=List.mem_map_of_mem (f:=fun p:ByteArray×Value=>p.2) this
   rw[show(l.filter fun p=>p.1.data.toList==z.data.toList).map (fun p=>p.2)=[v]from h]at g
   exact List.mem_singleton.1 g
variable {w:World} {t e:TypeId} {b:Nat}
theorem sq_look (h:Mq w b (sq l)) (ht:P.underlying t=some (.map k e)) (hk:P.underlying k=some .string) (hs:shK l=true) (hz:z.size≤maxLen) (hv:finK l z=[v]):
 (Instr.lookup t (.map (some b)) (.string z) true).run P w=.ok (.tuple #[v,.bool true]) w:=
 h.look ht (string_keyed hk) (keyOf_string_mk hk hz) true (keys_ok hk hs) (fin_yes hv).1 (fin_yes hv).2
theorem sq_miss (h:Mq w b (sq l)) (ht:P.underlying t=some (.map k e)) (hk:P.underlying k=some .string) (hs:shK l=true) (hz:z.size≤maxLen) {zv:Value} (he:(zeroValue e).run P w=.ok zv w) (hv:finK l z=[]):
 (Instr.lookup t (.map (some b)) (.string z) true).run P w=.ok (.tuple #[zv,.bool false]) w:=
 h.miss ht (string_keyed hk) (keyOf_string_mk hk hz) true he (keys_ok hk hs) (fin_no hv)
variable {ops:Array Oper} {rest:List Oper} {o:Oper} {a:Act} {Q:Exit→Act→World→Prop}
theorem wpList_sput (hg:o.guard=none) (m x u:Operand) (hop:o.op=Op.insert t m x u) (ht:P.underlying t=some (.map k e)) (hk:P.underlying k=some .string)
 (hm:a.eval m=.map (some b)) (h:Mq w b (sq l)) (f:Nat) (hx:a.eval x=.string z) (hv:a.eval u=.func (.func f) #[] #[]) (hs:shK ((z,.bool true)::l)=true) (hn:finK l z=[])
 (hK:∀w',Mq w' b (sq (l++[(z,.func (.func f) #[] #[])]))→w.grownBy w' (some b)→wpList P ops Q rest (a.put o.dst undef) w'):wpList P ops Q (o::rest) a w:=by
 have hs':(decide (z.size≤16)&&shK l)=true:=hs
 obtain⟨h1,h2⟩:=Bool.and_eq_true_iff.1 hs'
 exact wpList_mput w hg m x u t hop k e ht (string_keyed hk) b (sq l) hm h _ _ hx hv _ (keyOf_string_mk hk (by have:=of_decide_eq_true h1;unfold maxLen;omega)) (keys_ok hk h2) (fin_no hn) fun w' hT=>by
  rw[sq_snoc]at hT;exact hK w' hT
theorem wpList_supd (hg:o.guard=none) (m x u:Operand) (hop:o.op=Op.mapUpdate t m x u) (ht:P.underlying t=some (.map k e)) (hk:P.underlying k=some .string)
 (hm:a.eval m=.map (some b)) (h:Mq w b (sq l)) (hx:a.eval x=.string z) (hv:a.eval u=v) (hs:shK ((z,.bool true)::l)=true) (hn:finK l z=[])
 (hK:∀w',Mq w' b (sq (l++[(z,v)]))→w.grownBy w' (some b)→wpList P ops Q rest (a.put o.dst undef) w'):wpList P ops Q (o::rest) a w:=by
 have hs':(decide (z.size≤16)&&shK l)=true:=hs
 obtain⟨h1,h2⟩:=Bool.and_eq_true_iff.1 hs'
 refine wpList_plain hg fun K' hK'=> ?_
 obtain⟨w',hrun,r1,r2⟩:=h.put ht (string_keyed hk) (keyOf_string_mk hk (by have:=of_decide_eq_true h1;unfold maxLen;omega)) v (keys_ok hk h2) (fin_no hn)
 rw[sq_snoc]at r1
 unfold Oper.wp
 simp[execOp,hop,hm,hx,hv,hrun,Result.andThen]
 exact hK' _ _ (hK w' r1 r2)
end
theorem iter_grown {W w:World} {g b:Nat} {s:ByteArray} {p:Nat} (h:W.heap[g]?=some (.stringIter s p)) (hb:W.grownBy w (some b)) (hne:g≠b):w.heap[g]?=some (.stringIter s p):=
 (hb.block g (Array.getElem?_eq_some_iff.1 h).1 (fun e=>by injection e with e;exact hne e)).trans h
theorem Mq.iterAt {w:World} {b g:Nat} {l:List (Value×Value)} (h:Mq w b l) (hne:b≠g) (s:ByteArray) (p:Nat):Mq (w.iterAt g s p) b l:=by
 obtain⟨es,clock,he,hm⟩:=h
 exact⟨es,clock,(Lib.iterAt_other w g b s p hne).trans he,hm⟩
end Go.Proofs.YtcfbjdplhgdpfaaGreatDoor

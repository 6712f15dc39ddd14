import Derived.Test.YtbijncndjlmmdaaGreatDoorMah
import Derived.Maps.Own
import Derived.StringKeys
import Derived.Lib.OthersKept
import Derived.Laws.Runes
import Derived.Test.YtbijncndjlmmdaaGreatDoorMag
import Derived.Deep.RegionWith
import Derived.Deep.DeepCutAuto
set_option maxHeartbeats 16000000
set_option maxRecDepth 10000
namespace Go.Proofs.YtbijncndjlmmdaaGreatDoor
set_option linter.unusedVariables false
set_option linter.unusedSimpArgs false
open Go.RowKit Go.Maps Go.MapKept
open Go.ChangeMaps (setBlock heap_setBlock_same heap_setBlock_other)
def Mq (W:World) (b:Nat) (l:List (Value×Value)):Prop:=∃es clock,W.heap[b]?=some (.map es clock)∧es.toList.map (fun e=>(e.key,e.val))=l
theorem Mq.lt {W:World} {b:Nat} {l:List (Value×Value)} (h:Mq W b l):b<W.heap.size:=by
 obtain⟨es,clock,hb,_⟩:=h
 exact(Array.getElem?_eq_some_iff.1 hb).1
theorem Mq.below {W W':World} {b:Nat} {l:List (Value×Value)} (h:Mq W b l) (hb:Below W.heap.size W W'):Mq W' b l:=by
 have hlt:=h.lt
 obtain⟨es,clock,he,hm⟩:=h
 exact⟨es,clock,(hb.block b hlt).trans he,hm⟩
theorem Mq.made (W:World):Mq (W.alloc (.map #[] 0)) W.heap.size []:=⟨#[],0,(MapKept.heap_alloc W _).1,rfl⟩
theorem Mq.mem {es:Array MapEntry} {l:List (Value×Value)} (h:es.toList.map (fun e=>(e.key,e.val))=l) {e:MapEntry} (he:e∈es.toList):(e.key,e.val)∈l:=by
 rw[←h]
 exact List.mem_map.2 ⟨e,he,rfl⟩
theorem Mq.put {P:Program} {w:World} {t k e:TypeId} {b:Nat} {l:List (Value×Value)} (ht:P.underlying t=some (.map k e)) (K:Keyed P k) (h:Mq w b l) {x:Value} {lx:Lit} (hkey:keyOf P k x=some lx) (v:Value)
 (hl:∀p∈l,∃m,keyOf P k p.1=some m) (hx:∀p∈l,p.1≠x):∃w',(Instr.mapUpdate t (.map (some b)) x v).run P w=.ok () w'∧Mq w' b (l++[(x,v)])∧w.grownBy w' (some b):=by
 obtain⟨es,clock,hb,hm⟩:=h
 rcases K.find w hkey es.toList (fun y hy=>hl _ (Mq.mem hm hy))with⟨h1,h2⟩|⟨j,e0,h1,h2,h3⟩
 · refine⟨setBlock w b (.map (es.push ⟨x,v,clock⟩) (clock+1)),?_,⟨_,_,heap_setBlock_same hb _,?_⟩,⟨rfl,rfl,rfl,by simp[setBlock],fun i _ hi=>heap_setBlock_other hb _ (fun e=>hi (by rw[e]))⟩⟩
   · have hs:=K.stays w hkey
     simp[Instr.mapUpdate,run_underlying ht,MapKept.run_getObj_map hb,K.check w false hkey,h1,MapKept.run_setObj_map _ hb,Result.andThen,setBlock]
   · rw[Array.toList_push,List.map_append,hm];rfl
 · exact absurd h3 (hx _ (Mq.mem hm (List.mem_of_getElem? h2)))
theorem Mq.look {P:Program} {w:World} {t k e:TypeId} {b:Nat} {l:List (Value×Value)} (ht:P.underlying t=some (.map k e)) (K:Keyed P k) (h:Mq w b l) {x:Value} {lx:Lit} (hkey:keyOf P k x=some lx) {v:Value} (ok:Bool)
 (hl:∀p∈l,∃m,keyOf P k p.1=some m) (hm:∃v',(x,v')∈l) (hu:∀p∈l,p.1=x→p.2=v):(Instr.lookup t (.map (some b)) x ok).run P w=.ok (if ok then .tuple #[v,.bool true]else v) w:=by
 obtain⟨es,clock,hb,he⟩:=h
 rcases K.find w hkey es.toList (fun y hy=>hl _ (Mq.mem he hy))with⟨h1,h2⟩|⟨j,e0,h1,h2,h3⟩
 · exfalso
   obtain⟨v',hm⟩:=hm
   rw[←he]at hm
   obtain⟨y,hy,e1⟩:=List.mem_map.1 hm
   injection e1 with e1 _
   exact h2 y hy e1
 · have hv:e0.val=v:=hu _ (Mq.mem he (List.mem_of_getElem? h2)) h3
   simp[Instr.lookup,run_underlying ht,MapKept.run_getObj_map hb,K.check w _ hkey,h1,Result.andThen,hv]
theorem Mq.miss {P:Program} {w:World} {t k e:TypeId} {b:Nat} {l:List (Value×Value)} (ht:P.underlying t=some (.map k e)) (K:Keyed P k) (h:Mq w b l) {x:Value} {lx:Lit} (hkey:keyOf P k x=some lx) {z:Value} (ok:Bool)
 (hz:(zeroValue e).run P w=.ok z w) (hl:∀p∈l,∃m,keyOf P k p.1=some m) (hx:∀p∈l,p.1≠x):(Instr.lookup t (.map (some b)) x ok).run P w=.ok (if ok then .tuple #[z,.bool false]else z) w:=by
 obtain⟨es,clock,hb,he⟩:=h
 rcases K.find w hkey es.toList (fun y hy=>hl _ (Mq.mem he hy))with⟨h1,h2⟩|⟨j,e0,h1,h2,h3⟩
 · simp[Instr.lookup,run_underlying ht,MapKept.run_getObj_map hb,K.check w _ hkey,h1,hz,Result.andThen]
 · exact absurd h3 (hx _ (Mq.mem he (List.mem_of_getElem? h2)))
theorem wpList_mput {P:Program} (w:World) {ops:Array Oper} {rest:List Oper} {o:Oper} {a:Act} {Q:Exit→Act→World→Prop}
 (hg:o.guard=none) (m x v:Operand) (t:TypeId) (hop:o.op=Op.insert t m x v) (k e:TypeId) (ht:P.underlying t=some (.map k e)) (K:Keyed P k) (b:Nat) (l:List (Value×Value))
 (hm:a.eval m=.map (some b)) (h:Mq w b l) (z u:Value) (hx:a.eval x=z) (hv:a.eval v=u) (lz:Lit) (hkey:keyOf P k z=some lz) (hl:∀p∈l,∃m,keyOf P k p.1=some m) (hne:∀p∈l,p.1≠z)
 (hK:∀w',Mq w' b (l++[(z,u)])→w.grownBy w' (some b)→wpList P ops Q rest (a.put o.dst undef) w'):wpList P ops Q (o::rest) a w:=by
 refine wpList_plain hg fun K' hK'=> ?_
 obtain⟨w',hrun,r1,r2⟩:=h.put ht K hkey u hl hne
 unfold Oper.wp
 simp[execOp,hop,hm,hx,hv,hrun,Result.andThen]
 exact hK' _ _ (hK w' r1 r2)
theorem mgrown {B b:Nat} {w0 w w':World} (h:Below B w0 w) (hg:w.grownBy w' (some b)) (hB:B≤b) (hs:B≤w.heap.size):Below B w0 w':=
 ⟨hg.os.trans h.os,hg.tape.trans h.tape,hg.output.trans h.output,Nat.le_trans h.size hg.size,fun i hi=>(hg.block i (by omega) (fun e=>by injection e with e;omega)).trans (h.block i hi)⟩
end Go.Proofs.YtbijncndjlmmdaaGreatDoor
namespace Go.Proofs.YtbijncndjlmmdaaGreatDoor
set_option linter.unusedVariables false
set_option linter.unusedSimpArgs false
open Go.RowKit Go.Maps Go.MapKept Go.WideMaps
def sq (l:List (ByteArray×Value)):List (Value×Value):=l.map fun p=>(.string p.1,p.2)
theorem sq_snoc (l:List (ByteArray×Value)) (z:ByteArray) (v:Value):sq l++[(.string z,v)]=sq (l++[(z,v)]):=by simp[sq]
def shK (l:List (ByteArray×Value)):Bool:=l.all fun p=>decide (p.1.size≤16)
def finK (l:List (ByteArray×Value)) (z:ByteArray):List Value:=(l.filter fun p=>p.1.data.toList==z.data.toList).map (·.2)
theorem text_eq {a b:ByteArray} (h:a.data.toList=b.data.toList):a=b:=by
 obtain⟨⟨a⟩⟩:=a
 obtain⟨⟨b⟩⟩:=b
 have h:a=b:=h
 rw[h]
section
variable {P:Program} {k:TypeId} {l:List (ByteArray×Value)} {z:ByteArray} {v:Value}
theorem keys_ok (hk:P.underlying k=some .string) (h:shK l=true):∀p∈sq l,∃m,keyOf P k p.1=some m:=by
 intro p hp
 obtain⟨q,hq,rfl⟩:=List.mem_map.1 hp
 have:=of_decide_eq_true (List.all_eq_true.1 h q hq)
 exact⟨_,keyOf_string_mk hk (by unfold maxLen;omega)⟩
theorem fin_no (h:finK l z=[]):∀p∈sq l,p.1≠ .string z:=by
 intro p hp e
 obtain⟨q,hq,rfl⟩:=List.mem_map.1 hp
 injection e with e
 have:q∈l.filter fun p=>p.1.data.toList==z.data.toList:=List.mem_filter.2 ⟨hq,by rw[e];exact beq_self_eq_true _⟩
 have g:=List.mem_map_of_mem (f:=fun p:ByteArray×Value=>p.2) this
 rw[show(l.filter fun p=>p.1.data.toList==z.data.toList).map (fun p=>p.2)=[]from h]at g
 cases g
theorem fin_yes (h:finK l z=[v]):(∃v',(.string z,v')∈sq l)∧∀p∈sq l,p.1=.string z→p.2=v:=by
 constructor
 · obtain⟨q,hq⟩:=List.exists_mem_of_ne_nil (l.filter fun p=>p.1.data.toList==z.data.toList) (fun e=>by unfold finK at h;rw[e]at h;cases h)
   obtain⟨h1,h2⟩:=List.mem_filter.1 hq
   exact⟨q.2,List.mem_map.2 ⟨q,h1,by rw[text_eq (eq_of_beq h2)]⟩⟩
 · intro p hp e
   obtain⟨q,hq,rfl⟩:=List.mem_map.1 hp
   injection e with e
   have:q∈l.filter fun p=>p.1.data.toList==z.data.toList:=List.mem_filter.2 ⟨hq,by rw[e];exact beq_self_eq_true _⟩
   have g:=List.mem_map_of_mem (f:=fun p:ByteArray×Value=>p.2) this
   rw[show(l.filter fun p=>p.1.data.toList==z.data.toList).map (fun p=>p.2)=[v]from h]at g
   exact List.mem_singleton.1 g
variable {w:World} {t e:TypeId} {b:Nat}
theorem sq_look (h:Mq w b (sq l)) (ht:P.underlying t=some (.map k e)) (hk:P.underlying k=some .string) (hs:shK l=true) (hz:z.size≤maxLen) (hv:finK l z=[v]):
 (Instr.lookup t (.map (some b)) (.string z) true).run P w=.ok (.tuple #[v,.bool true]) w:=
 h.look ht (string_keyed hk) (keyOf_string_mk hk hz) true (keys_ok hk hs) (fin_yes hv).1 (fin_yes hv).2
theorem sq_miss (h:Mq w b (sq l)) (ht:P.underlying t=some (.map k e)) (hk:P.underlying k=some .string) (hs:shK l=true) (hz:z.size≤maxLen) {zv:Value} (he:(zeroValue e).run P w=.ok zv w) (hv:finK l z=[]):
 (Instr.lookup t (.map (some b)) (.string z) true).run P w=.ok (.tuple #[zv,.bool false]) w:=
 h.miss ht (string_keyed hk) (keyOf_string_mk hk hz) true he (keys_ok hk hs) (fin_no hv)
variable {ops:Array Oper} {rest:List Oper} {o:Oper} {a:Act} {Q:Exit→Act→World→Prop}
theorem wpList_sput (hg:o.guard=none) (m x u:Operand) (hop:o.op=Op.insert t m x u) (ht:P.underlying t=some (.map k e)) (hk:P.underlying k=some .string)
 (hm:a.eval m=.map (some b)) (h:Mq w b (sq l)) (f:Nat) (hx:a.eval x=.string z) (hv:a.eval u=.func (.func f) #[] #[]) (hs:shK ((z,.bool true)::l)=true) (hn:finK l z=[])
 (hK:∀w',Mq w' b (sq (l++[(z,.func (.func f) #[] #[])]))→w.grownBy w' (some b)→wpList P ops Q rest (a.put o.dst undef) w'):wpList P ops Q (o::rest) a w:=by
 have hs':(decide (z.size≤16)&&shK l)=true:=hs
 obtain⟨h1,h2⟩:=Bool.and_eq_true_iff.1 hs'
 exact wpList_mput w hg m x u t hop k e ht (string_keyed hk) b (sq l) hm h _ _ hx hv _ (keyOf_string_mk hk (by have:=of_decide_eq_true h1;unfold maxLen;omega)) (keys_ok hk h2) (fin_no hn) fun w' hT=>by
  rw[sq_snoc]at hT;exact hK w' hT
theorem wpList_supd (hg:o.guard=none) (m x u:Operand) (hop:o.op=Op.mapUpdate t m x u) (ht:P.underlying t=some (.map k e)) (hk:P.underlying k=some .string)
 (hm:a.eval m=.map (some b)) (h:Mq w b (sq l)) (hx:a.eval x=.string z) (hv:a.eval u=v) (hs:shK ((z,.bool true)::l)=true) (hn:finK l z=[])
 (hK:∀w',Mq w' b (sq (l++[(z,v)]))→w.grownBy w' (some b)→wpList P ops Q rest (a.put o.dst undef) w'):wpList P ops Q (o::rest) a w:=by
 have hs':(decide (z.size≤16)&&shK l)=true:=hs
 obtain⟨h1,h2⟩:=Bool.and_eq_true_iff.1 hs'
 refine wpList_plain hg fun K' hK'=> ?_
 obtain⟨w',hrun,r1,r2⟩:=h.put ht (string_keyed hk) (keyOf_string_mk hk (by have:=of_decide_eq_true h1;unfold maxLen;omega)) v (keys_ok hk h2) (fin_no hn)
 rw[sq_snoc]at r1
 unfold Oper.wp
 simp[execOp,hop,hm,hx,hv,hrun,Result.andThen]
 exact hK' _ _ (hK w' r1 r2)
end
theorem iter_grown {W w:World} {g b:Nat} {s:ByteArray} {p:Nat} (h:W.heap[g]?=some (.stringIter s p)) (hb:W.grownBy w (some b)) (hne:g≠b):w.heap[g]?=some (.stringIter s p):=
 (hb.block g (Array.getElem?_eq_some_iff.1 h).1 (fun e=>by injection e with e;exact hne e)).trans h
theorem Mq.iterAt {w:World} {b g:Nat} {l:List (Value×Value)} (h:Mq w b l) (hne:b≠g) (s:ByteArray) (p:Nat):Mq (w.iterAt g s p) b l:=by
 obtain⟨es,clock,he,hm⟩:=h
 exact⟨es,clock,(Lib.iterAt_other w g b s p hne).trans he,hm⟩
end Go.Proofs.YtbijncndjlmmdaaGreatDoor
namespace Go.Proofs.YtbijncndjlmmdaaGreatDoor
set_option linter.unusedVariables false
set_option linter.unusedSimpArgs false
open Go.RowKit
theorem Sz.drew_ {w:World} {A:Option Addr} {l:List Nat} (h:Sz w A l):Sz w.drew A l:=h
theorem B4.drew {w W:World} {s0 s1 s2 s3:Int} {P0 P1 P2 P3:Option Addr} {n0 n1 n2 n3 c0 c1 c2 c3:Nat} (h:B4 w W s0 P0 n0 c0 s1 P1 n1 c1 s2 P2 n2 c2 s3 P3 n3 c3):B4 w W.drew s0 P0 n0 c0 s1 P1 n1 c1 s2 P2 n2 c2 s3 P3 n3 c3:=⟨h.a,h.b,h.r,h.t,h.bel.drew⟩
def DivPost (x y:Int) (w:World) (e:Ending) (w':World):Prop:=∃v u,e=.returned (.tuple #[v,u])∧NumV w' v (fq x y)∧NumV w' u (fr x y)∧Below w.heap.size w w'
theorem wrap_signs (x y:Int):IntKind.i64.wrap (x.sign*y.sign)=x.sign*y.sign:=by
 rcases sign_cases x with h|h|h<;>rcases sign_cases y with h'|h'|h'<;>first|(rw[h,h'];rfl)|(rw[h,h'];simp;rfl)|(subst h;simp;rfl)|(subst h';simp;rfl)
theorem sgn_or (x y:Int):x.sign*y.sign=1∨x.sign*y.sign= -1∨(x=0∨y=0):=by
 rcases sign_cases x with h|h|h<;>rcases sign_cases y with h'|h'|h'
 · rw[h,h'];exact .inl rfl
 · rw[h,h'];exact .inr (.inl rfl)
 · exact .inr (.inr (.inr h'))
 · rw[h,h'];exact .inr (.inl rfl)
 · rw[h,h'];exact .inl rfl
 · exact .inr (.inr (.inr h'))
 · exact .inr (.inr (.inl h))
 · exact .inr (.inr (.inl h))
 · exact .inr (.inr (.inl h))
theorem divided_eq (x y:Int) (A B:Option Addr) (l m:List Nat) (c d:Nat) (w:World) (hA:Sz w A l) (hB:Sz w B m) (ol:Ok l) (om:Ok m) (nl:Norm l) (nm:Norm m) (hv:val l=x.natAbs) (hv':val m=y.natAbs) (hl:l.length≤50) (hm:m.length≤50) (hy:y≠0)
 (hcase:x.sign*((x.natAbs%y.natAbs:Nat):Int)=0∨(x.sign*((x.natAbs%y.natAbs:Nat):Int)).sign=y.sign):
 Calls Tryz.prog 269 #[.agg #[.int .i64 x.sign,.slice A l.length c],.agg #[.int .i64 y.sign,.slice B m.length d]] w (DivPost x y w):=by
 have hcut:=fun(w1:World) hA1 hB1=>cut_any A B l m c d w1 hA1 hB1 ol om nl nm (by omega) (by omega) (by rintro rfl;rw[val_nil]at hv';omega)
 rw[hv,hv']at hcut
 have a1:=val_lt ol
 rw[hv]at a1
 have a2:=pow_le_100 a1 (by omega)
 have a3:=sum_lt_200 (b:=0) a2 (by omega)
 have hq:=Nat.div_le_self x.natAbs y.natAbs
 have hr:=Nat.mod_le x.natAbs y.natAbs
 obtain⟨e1,e2⟩:=div_exact hy hcase
 have s1:IntKind.i64.wrap (x.sign*y.sign)=1∨IntKind.i64.wrap (x.sign*y.sign)= -1∨x.natAbs/y.natAbs=0:=by
  rw[wrap_signs]
  exact cases3 (sgn_or x y) fun h=>h.elim (fun h=>by rw[h];simp) (fun h=>absurd h hy)
 have s2:x.sign=1∨x.sign= -1∨x.natAbs%y.natAbs=0:=cases3 (sign_cases x) fun h=>by rw[h];simp
 obtain⟨q1,hq1⟩:∃q,q=(fq x y).sign:=⟨_,rfl⟩
 obtain⟨q2,hq2⟩:∃q,q=(fr x y).sign:=⟨_,rfl⟩
 have HM1:=Lib.hid (made_for (IntKind.i64.wrap (x.sign*y.sign)) (z:=fq x y) (q:=q1) (n:=x.natAbs/y.natAbs) (by rw[wrap_signs];exact e1.symm) hq1.symm s1 (by omega))
 have HM2:=Lib.hid (made_for x.sign (z:=fr x y) (q:=q2) (n:=x.natAbs%y.natAbs) e2.symm hq2.symm s2 (by omega))
 have hc2:q2=0∨q2=y.sign:=by
  rw[hq2,e2]
  rcases hcase with h|h
  · rw[h];exact .inl rfl
  · exact .inr h
 have HQ:=Lib.hid (And.intro hq1 hq2)
 have H1:=Lib.hid hcut
 obtain⟨sx,hsx⟩:∃sx,sx=x.sign:=⟨_,rfl⟩
 obtain⟨sy,hsy⟩:∃sy,sy=y.sign:=⟨_,rfl⟩
 rw[←hsy]at hc2
 rw[←hsx,←hsy]at HM1 ⊢
 rw[←hsx]at HM2
 obtain⟨p,hp⟩:∃p,IntKind.i64.wrap (sx*sy)=p:=⟨_,rfl⟩
 rw[hp]at HM1
 clear hcut a1 a2 a3 hq hr e1 e2 s1 s2 hq1 hq2 hsx hsy hcase hv hv'
 go_enter Tryz.func269,Tryz.ntmps269
 go_wp2_with fail
 have hbox:=b4_new w sx A l.length c sy B m.length d
 generalize ((((w.alloc (.cells #[.int .i64 sx,.slice A l.length c] 225)).alloc (.cells #[.int .i64 sy,.slice B m.length d] 225)).alloc (.cells #[.int .i64 0,.slice none 0 0] 225)).alloc (.cells #[.int .i64 0,.slice none 0 0] 225))=W3 at hbox ⊢
 refine(H1.out _ (hA.below hbox.bel) (hB.below hbox.bel)).mono ?_
 rintro e W4 ⟨_,_,rfl,⟨Q,lq,qc,rfl,hQ,okq,nmq,hvq⟩,⟨R,lr,rc,rfl,hR,okr,nmr,hvr⟩,hb4⟩
 have hbox0:=hbox.below hb4
 clear hbox hb4
 have k0:=hbox0.a.c0
 have k1:=hbox0.b.c0
 have k0':W4.drew.cell? ⟨w.heap.size,0,none⟩=some (.int .i64 sx):=k0
 have k1':W4.drew.cell? ⟨w.heap.size+1,0,none⟩=some (.int .i64 sy):=k1
 go_wp2_with fail
 go_region_held3 (fun w'=>w'.cell? ⟨w.heap.size,0,none⟩=some (.int .i64 sx)∧w'.cell? ⟨w.heap.size+1,0,none⟩=some (.int .i64 sy))
  (first|with_reducible exact⟨hbox0.a.c0,hbox0.b.c0⟩|with_reducible exact⟨k0',k1'⟩|with_reducible exact⟨hbox1.a.c0,hbox1.b.c0⟩|with_reducible exact⟨hbox2.a.c0,hbox2.b.c0⟩|with_reducible exact⟨(hbox2.set_r _ _ _ _).a.c0,(hbox2.set_r _ _ _ _).b.c0⟩|with_reducible exact⟨((hbox2.set_r _ _ _ _).set_t _ _ _ _).a.c0,((hbox2.set_r _ _ _ _).set_t _ _ _ _).b.c0⟩|fail)
  (first
    |(go_at_call_of 280 (Value.int .i64 p);refine(HM1.out _ Q lq qc (by exact hQ) okq nmq hvq).mono ?_;rintro e w5 ⟨P5,l5,c5,rfl,hP5,ok5,nm5,hv5,hb5⟩;(first|have hbox1:=hbox0.below (undrew hb5)|have hbox1:=hbox0.below hb5);(first|have hR1:=hR.below (undrew hb5)|have hR1:=hR.below hb5))
    |(go_at_call_of 280 (Value.int .i64 sx);refine(HM2.out _ R lr rc (by exact hR1) okr nmr hvr).mono ?_;rintro e w6 ⟨P6,l6,c6,rfl,hP6,ok6,nm6,hv6,hb6⟩;have hbox2:=hbox1.below hb6;have hP5':=hP5.below hb6;have y0:=hbox2.r.c0;have y1:=hbox2.r.c1;have y2:=hbox2.t.c0;have y3:=hbox2.t.c1;have f0:=hbox2.r.f 0;have f1:=hbox2.r.f 1;have f2:=hbox2.t.f 0;have f3:=hbox2.t.f 1))
 have hbox3:=(hbox2.set_r q1 P5 l5.length c5).set_t q2 P6 l6.length c6
 have hS5:=(hP5'.far hbox2.r.far (Only.two _ _ (.int .i64 q1) (.slice P5 l5.length c5))).far (hbox2.set_r q1 P5 l5.length c5).t.far (Only.two _ _ (.int .i64 q2) (.slice P6 l6.length c6))
 have hS6:=(hP6.far hbox2.r.far (Only.two _ _ (.int .i64 q1) (.slice P5 l5.length c5))).far (hbox2.set_r q1 P5 l5.length c5).t.far (Only.two _ _ (.int .i64 q2) (.slice P6 l6.length c6))
 generalize ((((w6.setCell ⟨w.heap.size+1+1,0,none⟩ (.int .i64 q1)).setCell ⟨w.heap.size+1+1,1,none⟩ (.slice P5 l5.length c5)).setCell ⟨w.heap.size+1+1+1,0,none⟩ (.int .i64 q2)).setCell ⟨w.heap.size+1+1+1,1,none⟩ (.slice P6 l6.length c6))=W7 at hbox3 hS5 hS6 ⊢
 clear hbox0 hbox1 hbox2 hb5 hb6 y0 y1 y2 y3 f0 f1 f2 f3 k0 k1 k0' k1' hP5 hP5' hP6 hQ hR hR1 HM1 HM2 H1 hp
 have t0:=hbox3.t.c0
 have t1:=hbox3.t.c1
 have r0:=hbox3.r.c0
 have r1:=hbox3.r.c1
 have b0:=hbox3.b.c0
 have f0:=hbox3.r.f 0
 have f1:=hbox3.r.f 1
 have f2:=hbox3.t.f 0
 have f3:=hbox3.t.f 1
 have hbox4:=hbox3.drew
 have hbox5:=(hbox3.set_r q1 P5 l5.length c5).drew
 have hbox6:=((hbox3.set_r q1 P5 l5.length c5).set_t q2 P6 l6.length c6).drew
 have hT5:Sz ((((W7.setCell ⟨w.heap.size+1+1,0,none⟩ (.int .i64 q1)).setCell ⟨w.heap.size+1+1,1,none⟩ (.slice P5 l5.length c5)).setCell ⟨w.heap.size+1+1+1,0,none⟩ (.int .i64 q2)).setCell ⟨w.heap.size+1+1+1,1,none⟩ (.slice P6 l6.length c6)).drew P5 l5:=
  Sz.drew_ ((hS5.far hbox3.r.far (Only.two _ _ (.int .i64 q1) (.slice P5 l5.length c5))).far (hbox3.set_r q1 P5 l5.length c5).t.far (Only.two _ _ (.int .i64 q2) (.slice P6 l6.length c6)))
 have hT6:Sz ((((W7.setCell ⟨w.heap.size+1+1,0,none⟩ (.int .i64 q1)).setCell ⟨w.heap.size+1+1,1,none⟩ (.slice P5 l5.length c5)).setCell ⟨w.heap.size+1+1+1,0,none⟩ (.int .i64 q2)).setCell ⟨w.heap.size+1+1+1,1,none⟩ (.slice P6 l6.length c6)).drew P6 l6:=
  Sz.drew_ ((hS6.far hbox3.r.far (Only.two _ _ (.int .i64 q1) (.slice P5 l5.length c5))).far (hbox3.set_r q1 P5 l5.length c5).t.far (Only.two _ _ (.int .i64 q2) (.slice P6 l6.length c6)))
 go_wp2_with fail
 by_cases h0:q2=0
 · subst h0
   refine(isZero_any _ true rfl _).mono ?_
   rintro e W8 ⟨rfl,rfl⟩
   go_wp2_with fail
   go_region_held3 (fun w'=>w'.cell? ⟨w.heap.size+1+1,0,none⟩=some (.int .i64 q1)∧w'.cell? ⟨w.heap.size+1+1,1,none⟩=some (.slice P5 l5.length c5)∧w'.cell? ⟨w.heap.size+1+1+1,0,none⟩=some (.int .i64 0)∧w'.cell? ⟨w.heap.size+1+1+1,1,none⟩=some (.slice P6 l6.length c6))
    (first|with_reducible exact⟨hbox4.r.c0,hbox4.r.c1,hbox4.t.c0,hbox4.t.c1⟩|with_reducible exact⟨hbox5.r.c0,hbox5.r.c1,hbox5.t.c0,hbox5.t.c1⟩|with_reducible exact⟨hbox6.r.c0,hbox6.r.c1,hbox6.t.c0,hbox6.t.c1⟩|fail) (fail)
   have z0:=hbox6.r.c0
   have z1:=hbox6.r.c1
   have z2:=hbox6.t.c0
   have z3:=hbox6.t.c1
   go_wp2_with fail
   exact bodyPost_ret (v:=.tuple #[.agg #[.int .i64 q1,.slice P5 l5.length c5],.agg #[.int .i64 0,.slice P6 l6.length c6]]) (by simp[results,Tryz.results269,go_sem,z0,z1,z2,z3]) rfl ⟨_,_,rfl,⟨P5,l5,c5,by rw[←HQ.out.1],hT5,ok5,nm5,hv5⟩,⟨P6,l6,c6,by rw[←HQ.out.2],hT6,ok6,nm6,hv6⟩,hbox6.bel⟩
 · have h1:q2=sy:=by rcases hc2 with h|h;exact absurd h h0;exact h
   refine(isZero_any _ false (beq_eq_false_iff_ne.2 h0) _).mono ?_
   rintro e W8 ⟨rfl,rfl⟩
   have hn:(q2 != sy)=false:=by rw[h1];simp
   clear h1 hc2
   go_wp2_with fail
   go_region_held3 (fun w'=>w'.cell? ⟨w.heap.size+1+1,0,none⟩=some (.int .i64 q1)∧w'.cell? ⟨w.heap.size+1+1,1,none⟩=some (.slice P5 l5.length c5)∧w'.cell? ⟨w.heap.size+1+1+1,0,none⟩=some (.int .i64 q2)∧w'.cell? ⟨w.heap.size+1+1+1,1,none⟩=some (.slice P6 l6.length c6))
    (first|with_reducible exact⟨hbox4.r.c0,hbox4.r.c1,hbox4.t.c0,hbox4.t.c1⟩|with_reducible exact⟨hbox5.r.c0,hbox5.r.c1,hbox5.t.c0,hbox5.t.c1⟩|with_reducible exact⟨hbox6.r.c0,hbox6.r.c1,hbox6.t.c0,hbox6.t.c1⟩|fail) (fail)
   have z0:=hbox6.r.c0
   have z1:=hbox6.r.c1
   have z2:=hbox6.t.c0
   have z3:=hbox6.t.c1
   go_wp2_with fail
   exact bodyPost_ret (v:=.tuple #[.agg #[.int .i64 q1,.slice P5 l5.length c5],.agg #[.int .i64 q2,.slice P6 l6.length c6]]) (by simp[results,Tryz.results269,go_sem,z0,z1,z2,z3]) rfl ⟨_,_,rfl,⟨P5,l5,c5,by rw[←HQ.out.1],hT5,ok5,nm5,hv5⟩,⟨P6,l6,c6,by rw[←HQ.out.2],hT6,ok6,nm6,hv6⟩,hbox6.bel⟩
end Go.Proofs.YtbijncndjlmmdaaGreatDoor
namespace Go.Proofs.YtbijncndjlmmdaaGreatDoor
set_option linter.unusedVariables false
set_option linter.unusedSimpArgs false
open Go.RowKit
theorem plus_to (x y:Int) (A B:Option Addr) (l m:List Nat) (c d:Nat) {z sx sy q:Int} (ol:Ok l) (om:Ok m) (nl:Norm l) (nm:Norm m) (hv:val l=x.natAbs) (hv':val m=y.natAbs) (hl:l.length≤100) (hm:m.length≤100) (hz:x+y=z) (hx:sx=x.sign) (hy:sy=y.sign) (hq:q=z.sign) (w:World) (hA:Sz w A l) (hB:Sz w B m):
 Calls Tryz.prog 261 #[.agg #[.int .i64 sx,.slice A l.length c],.agg #[.int .i64 sy,.slice B m.length d]] w (MadeRes z q w):=by
 subst hz hx hy hq
 refine(plus_any x y A B l m c d w hA hB ol om nl nm hv hv' hl hm).mono ?_
 rintro e w' ⟨v,rfl,⟨P,l',c',rfl,h1,h2,h3,h4⟩,hb⟩
 exact⟨P,l',c',rfl,h1,h2,h3,h4,hb⟩
def Lies (W:World) (P:Option Addr) (l:List Nat) (z:Int):Prop:=Sz W P l∧Ok l∧Norm l∧val l=z.natAbs
def DvCut (w:World) (sx:Int) (A:Option Addr) (ln c:Nat) (sy:Int) (B:Option Addr) (mn d:Nat) (q3 q4 X3 X4:Int) (wx:World):Prop:=
 ∃P9 l9 c9 P10 l10 c10,B4 w wx sx A ln c sy B mn d q3 P9 (List.length l9) c9 q4 P10 (List.length l10) c10∧Lies wx P9 l9 X3∧Lies wx P10 l10 X4
theorem DvCut.mk {w w10:World} {sx:Int} {A:Option Addr} {ln c:Nat} {sy:Int} {B:Option Addr} {mn d:Nat} {q3 q4 X3 X4:Int} {q1 q2:Int} {P5 P6:Option Addr} {n5 n6 c5 c6:Nat} (h:B4 w w10 sx A ln c sy B mn d q1 P5 n5 c5 q2 P6 n6 c6)
 {P9 P10:Option Addr} {l9 l10:List Nat} {c9 c10:Nat} (h9:Lies w10 P9 l9 X3) (h10:Lies w10 P10 l10 X4):
 DvCut w sx A ln c sy B mn d q3 q4 X3 X4 ((((w10.setCell ⟨w.heap.size+1+1,0,none⟩ (.int .i64 q3)).setCell ⟨w.heap.size+1+1,1,none⟩ (.slice P9 l9.length c9)).setCell ⟨w.heap.size+1+1+1,0,none⟩ (.int .i64 q4)).setCell ⟨w.heap.size+1+1+1,1,none⟩ (.slice P10 l10.length c10)):=
 ⟨P9,l9,c9,P10,l10,c10,(h.set_r q3 P9 l9.length c9).set_t q4 P10 l10.length c10,
   ⟨(h9.1.far h.r.far (Only.two _ _ (.int .i64 q3) (.slice P9 l9.length c9))).far (h.set_r q3 P9 l9.length c9).t.far (Only.two _ _ (.int .i64 q4) (.slice P10 l10.length c10)),h9.2⟩,
   ⟨(h10.1.far h.r.far (Only.two _ _ (.int .i64 q3) (.slice P9 l9.length c9))).far (h.set_r q3 P9 l9.length c9).t.far (Only.two _ _ (.int .i64 q4) (.slice P10 l10.length c10)),h10.2⟩⟩
theorem divided_ne (x y:Int) (A B:Option Addr) (l m:List Nat) (c d:Nat) (w:World) (hA:Sz w A l) (hB:Sz w B m) (ol:Ok l) (om:Ok m) (nl:Norm l) (nm:Norm m) (hv:val l=x.natAbs) (hv':val m=y.natAbs) (hl:l.length≤50) (hm:m.length≤50) (hy:y≠0)
 (hc0:x.sign*((x.natAbs%y.natAbs:Nat):Int)≠0) (hc1:(x.sign*((x.natAbs%y.natAbs:Nat):Int)).sign≠y.sign):
 Calls Tryz.prog 269 #[.agg #[.int .i64 x.sign,.slice A l.length c],.agg #[.int .i64 y.sign,.slice B m.length d]] w (DivPost x y w):=by
 have hcut:=fun(w1:World) hA1 hB1=>cut_any A B l m c d w1 hA1 hB1 ol om nl nm (by omega) (by omega) (by rintro rfl;rw[val_nil]at hv';omega)
 rw[hv,hv']at hcut
 have a1:=val_lt ol
 rw[hv]at a1
 have a2:=pow_le_100 a1 (by omega)
 have a3:=sum_lt_200 (b:=0) a2 (by omega)
 have hq:=Nat.div_le_self x.natAbs y.natAbs
 have hr:=Nat.mod_le x.natAbs y.natAbs
 obtain⟨e1,e2⟩:=div_less hy hc0 hc1
 obtain⟨X1,hX1⟩:∃z,z=x.sign*y.sign*((x.natAbs/y.natAbs:Nat):Int):=⟨_,rfl⟩
 obtain⟨X2,hX2⟩:∃z,z=x.sign*((x.natAbs%y.natAbs:Nat):Int):=⟨_,rfl⟩
 rw[←hX1]at e1
 rw[←hX2]at e2 hc0 hc1
 have s1:IntKind.i64.wrap (x.sign*y.sign)=1∨IntKind.i64.wrap (x.sign*y.sign)= -1∨x.natAbs/y.natAbs=0:=by
  rw[wrap_signs]
  exact cases3 (sgn_or x y) fun h=>h.elim (fun h=>by rw[h];simp) (fun h=>absurd h hy)
 have s2:x.sign=1∨x.sign= -1∨x.natAbs%y.natAbs=0:=cases3 (sign_cases x) fun h=>by rw[h];simp
 obtain⟨q1,hq1⟩:∃q,q=X1.sign:=⟨_,rfl⟩
 obtain⟨q2,hq2⟩:∃q,q=X2.sign:=⟨_,rfl⟩
 have HM1:=Lib.hid (made_for (IntKind.i64.wrap (x.sign*y.sign)) (z:=X1) (q:=q1) (n:=x.natAbs/y.natAbs) (by rw[wrap_signs];exact hX1.symm) hq1.symm s1 (by omega))
 have HM2:=Lib.hid (made_for x.sign (z:=X2) (q:=q2) (n:=x.natAbs%y.natAbs) hX2.symm hq2.symm s2 (by omega))
 have h0:q2≠0:=by rw[hq2];exact fun h=>hc0 (Int.eq_zero_of_sign_eq_zero h)
 have h1:q2≠y.sign:=by rw[hq2];exact hc1
 have HQ:=Lib.hid (And.intro hq1 hq2)
 have HE:=Lib.hid (And.intro e1 e2)
 have n1:X1.natAbs≤x.natAbs:=by
  rw[hX1]
  rcases sgn_or x y with h|h|h|h
  · rw[h,Int.one_mul,Int.natAbs_natCast];exact hq
  · rw[h,Int.neg_one_mul,Int.natAbs_neg,Int.natAbs_natCast];exact hq
  · rw[h];simp
  · exact absurd h hy
 have n2:X2.natAbs≤x.natAbs:=by
  rw[hX2]
  rcases sign_cases x with h|h|h
  · rw[h,Int.one_mul,Int.natAbs_natCast];exact hr
  · rw[h,Int.neg_one_mul,Int.natAbs_neg,Int.natAbs_natCast];exact hr
  · rw[h];simp
 have HN:=Lib.hid (And.intro n1 n2)
 have HV:=Lib.hid (And.intro a2 hv')
 have H1:=Lib.hid hcut
 obtain⟨sx,hsx⟩:∃sx,sx=x.sign:=⟨_,rfl⟩
 obtain⟨sy,hsy⟩:∃sy,sy=y.sign:=⟨_,rfl⟩
 rw[←hsy]at h1
 have HSY:=Lib.hid hsy
 rw[←hsx,←hsy]at HM1 ⊢
 rw[←hsx]at HM2
 obtain⟨p,hp⟩:∃p,IntKind.i64.wrap (sx*sy)=p:=⟨_,rfl⟩
 rw[hp]at HM1
 clear hcut a1 a2 a3 hq hr e1 e2 s1 s2 hq1 hq2 hsx hsy hv hv' hc0 hc1 hX1 hX2 n1 n2
 go_enter Tryz.func269,Tryz.ntmps269
 go_wp2_with fail
 have hbox:=b4_new w sx A l.length c sy B m.length d
 generalize ((((w.alloc (.cells #[.int .i64 sx,.slice A l.length c] 225)).alloc (.cells #[.int .i64 sy,.slice B m.length d] 225)).alloc (.cells #[.int .i64 0,.slice none 0 0] 225)).alloc (.cells #[.int .i64 0,.slice none 0 0] 225))=W3 at hbox ⊢
 refine(H1.out _ (hA.below hbox.bel) (hB.below hbox.bel)).mono ?_
 rintro e W4 ⟨_,_,rfl,⟨Q,lq,qc,rfl,hQ,okq,nmq,hvq⟩,⟨R,lr,rc,rfl,hR,okr,nmr,hvr⟩,hb4⟩
 have hbox0:=hbox.below hb4
 clear hbox hb4
 have k0:=hbox0.a.c0
 have k1:=hbox0.b.c0
 have k0':W4.drew.cell? ⟨w.heap.size,0,none⟩=some (.int .i64 sx):=k0
 have k1':W4.drew.cell? ⟨w.heap.size+1,0,none⟩=some (.int .i64 sy):=k1
 go_wp2_with fail
 go_region_held3 (fun w'=>w'.cell? ⟨w.heap.size,0,none⟩=some (.int .i64 sx)∧w'.cell? ⟨w.heap.size+1,0,none⟩=some (.int .i64 sy))
  (first|with_reducible exact⟨hbox0.a.c0,hbox0.b.c0⟩|with_reducible exact⟨k0',k1'⟩|with_reducible exact⟨hbox1.a.c0,hbox1.b.c0⟩|with_reducible exact⟨hbox2.a.c0,hbox2.b.c0⟩|with_reducible exact⟨(hbox2.set_r _ _ _ _).a.c0,(hbox2.set_r _ _ _ _).b.c0⟩|with_reducible exact⟨((hbox2.set_r _ _ _ _).set_t _ _ _ _).a.c0,((hbox2.set_r _ _ _ _).set_t _ _ _ _).b.c0⟩|fail)
  (first
    |(go_at_call_of 280 (Value.int .i64 p);refine(HM1.out _ Q lq qc (by exact hQ) okq nmq hvq).mono ?_;rintro e w5 ⟨P5,l5,c5,rfl,hP5,ok5,nm5,hv5,hb5⟩;(first|have hbox1:=hbox0.below (undrew hb5)|have hbox1:=hbox0.below hb5);(first|have hR1:=hR.below (undrew hb5)|have hR1:=hR.below hb5))
    |(go_at_call_of 280 (Value.int .i64 sx);refine(HM2.out _ R lr rc (by exact hR1) okr nmr hvr).mono ?_;rintro e w6 ⟨P6,l6,c6,rfl,hP6,ok6,nm6,hv6,hb6⟩;have hbox2:=hbox1.below hb6;have hP5':=hP5.below hb6;have y0:=hbox2.r.c0;have y1:=hbox2.r.c1;have y2:=hbox2.t.c0;have y3:=hbox2.t.c1;have f0:=hbox2.r.f 0;have f1:=hbox2.r.f 1;have f2:=hbox2.t.f 0;have f3:=hbox2.t.f 1))
 have hbox3:=(hbox2.set_r q1 P5 l5.length c5).set_t q2 P6 l6.length c6
 have hS5:=(hP5'.far hbox2.r.far (Only.two _ _ (.int .i64 q1) (.slice P5 l5.length c5))).far (hbox2.set_r q1 P5 l5.length c5).t.far (Only.two _ _ (.int .i64 q2) (.slice P6 l6.length c6))
 have hS6:=(hP6.far hbox2.r.far (Only.two _ _ (.int .i64 q1) (.slice P5 l5.length c5))).far (hbox2.set_r q1 P5 l5.length c5).t.far (Only.two _ _ (.int .i64 q2) (.slice P6 l6.length c6))
 generalize ((((w6.setCell ⟨w.heap.size+1+1,0,none⟩ (.int .i64 q1)).setCell ⟨w.heap.size+1+1,1,none⟩ (.slice P5 l5.length c5)).setCell ⟨w.heap.size+1+1+1,0,none⟩ (.int .i64 q2)).setCell ⟨w.heap.size+1+1+1,1,none⟩ (.slice P6 l6.length c6))=W7 at hbox3 hS5 hS6 ⊢
 clear hbox0 hbox1 hbox2 hb5 hb6 y0 y1 y2 y3 f0 f1 f2 f3 k0 k1 k0' k1' hP5 hP5' hP6 hQ hR hR1 HM1 HM2 H1 hp
 have t0:=hbox3.t.c0
 have t1:=hbox3.t.c1
 have r0:=hbox3.r.c0
 have r1:=hbox3.r.c1
 have b0:=hbox3.b.c0
 have f0:=hbox3.r.f 0
 have f1:=hbox3.r.f 1
 have f2:=hbox3.t.f 0
 have f3:=hbox3.t.f 1
 have b1:=hbox3.b.c1
 have hn:(q2 != sy)=true:=by rw[bne_iff_ne];exact h1
 have hz:=isZero_any _ false (beq_eq_false_iff_ne.2 h0)
 have HZ:=Lib.hid hz
 clear h0 h1 hz
 go_wp2_with fail
 refine(HZ.out _).mono ?_
 rintro e W8 ⟨rfl,rfl⟩
 obtain⟨q3,hq3⟩:∃q,q=(X1+ -1).sign:=⟨_,rfl⟩
 obtain⟨q4,hq4⟩:∃q,q=(X2+y).sign:=⟨_,rfl⟩
 obtain⟨v1,v2⟩:=HV.out
 have L5:l5.length≤100:=len_of_val nm5 hv5 (Nat.lt_of_le_of_lt HN.out.1 v1)
 have L6:l6.length≤100:=len_of_val nm6 hv6 (Nat.lt_of_le_of_lt HN.out.2 v1)
 have HP1:=Lib.hid (plus_to X1 (-1) P5 (some ⟨W7.heap.size,0,none⟩) l5 [1] c5 1 (q:=q3) ok5 (by simp[Ok]) nm5 (by rfl) hv5 (by rfl) L5 (by simp) rfl HQ.out.1 (by rfl:(-1:Int)=(-1:Int).sign) hq3)
 have HP2:=Lib.hid (plus_to X2 y P6 B l6 m c6 d (q:=q4) ok6 om nm6 nm hv6 v2 L6 (by omega) rfl HQ.out.2 HSY.out hq4)
 have HR:=Lib.hid (And.intro hq3 hq4)
 have hWA:Below w.heap.size w (W7.alloc (.cells #[.int .u32 1] 195)):=hbox3.bel.alloc hbox3.bel.size _
 have hSA5:=hS5.below ((Below.refl _ _).alloc (Nat.le_refl _) (.cells #[.int .u32 1] 195))
 have hSA6:=hS6.below ((Below.refl _ _).alloc (Nat.le_refl _) (.cells #[.int .u32 1] 195))
 have hS1:Sz (W7.alloc (.cells #[.int .u32 1] 195)) (some ⟨W7.heap.size,0,none⟩) [1]:=sz_one (cell_new1 W7 _) (by simp)
 have hboxA:=hbox3.below ((Below.refl _ _).alloc (Nat.le_refl _) (.cells #[.int .u32 1] 195))
 have hBA:=hB.below hWA
 clear hq3 hq4 v1 v2
 have tA0:=hboxA.t.c0
 have tA1:=hboxA.t.c1
 have rA0:=hboxA.r.c0
 have rA1:=hboxA.r.c1
 have bA0:=hboxA.b.c0
 have bA1:=hboxA.b.c1
 go_upto_region 4 with fail
 go_cut [] (fun wx=>DvCut w sx A l.length c sy B m.length d q3 q4 (X1+ -1) (X2+y) wx)
 case first=>
  go_region_with (first
   |(go_at_call_of 261 (Value.int .i64 q1);refine(HP1.out _ (by exact hSA5) (by exact hS1)).mono ?_;rintro e w9 ⟨P9,l9,c9,rfl,hP9,ok9,nm9,hv9,hb9⟩;(first|have hbox9:=hboxA.below (undrew hb9)|have hbox9:=hboxA.below hb9);(first|have hS69:=hSA6.below (undrew hb9)|have hS69:=hSA6.below hb9);(first|have hSB9:=hBA.below (undrew hb9)|have hSB9:=hBA.below hb9);have t90:=hbox9.t.c0;have t91:=hbox9.t.c1;have b90:=hbox9.b.c0;have b91:=hbox9.b.c1)
   |(go_at_call_of 261 (Value.int .i64 q2);refine(HP2.out _ (by exact hS69) (by exact hSB9)).mono ?_;rintro e w10 ⟨P10,l10,c10,rfl,hP10,ok10,nm10,hv10,hb10⟩;have hbox10:=hbox9.below hb10;have hP9':=hP9.below hb10;have y0:=hbox10.r.c0;have y1:=hbox10.r.c1;have y2:=hbox10.t.c0;have y3:=hbox10.t.c1;have f10:=hbox10.r.f 0;have f11:=hbox10.r.f 1;have f12:=hbox10.t.f 0;have f13:=hbox10.t.f 1))
  all_goals(go_wp2_with fail;go_meet;exact DvCut.mk hbox10 ⟨hP9',ok9,nm9,hv9⟩ ⟨hP10,ok10,nm10,hv10⟩)
 case rest=>
  clear hbox3 hS5 hS6 t0 t1 r0 r1 b0 f0 f1 f2 f3 b1 hn hboxA tA0 tA1 rA0 rA1 bA0 bA1 hSA5 hSA6 hS1 hBA hWA HP1 HP2 HZ L5 L6
  obtain⟨P9,l9,c9,P10,l10,c10,hbox3,⟨hS5,ok9,nm9,hv9⟩,⟨hS6,ok10,nm10,hv10⟩⟩:=hcut
  obtain⟨e1,e2⟩:=HE.out
  obtain⟨r1,r2⟩:=HR.out
  rw[←e1]at r1 hv9
  rw[←e2]at r2 hv10
  have HF:=Lib.hid (And.intro r1 r2)
  have hbox4:=hbox3.drew
  have hbox5:=(hbox3.set_r q3 P9 l9.length c9).drew
  have hbox6:=((hbox3.set_r q3 P9 l9.length c9).set_t q4 P10 l10.length c10).drew
  have hT5:=Sz.drew_ ((hS5.far hbox3.r.far (Only.two _ _ (.int .i64 q3) (.slice P9 l9.length c9))).far (hbox3.set_r q3 P9 l9.length c9).t.far (Only.two _ _ (.int .i64 q4) (.slice P10 l10.length c10)))
  have hT6:=Sz.drew_ ((hS6.far hbox3.r.far (Only.two _ _ (.int .i64 q3) (.slice P9 l9.length c9))).far (hbox3.set_r q3 P9 l9.length c9).t.far (Only.two _ _ (.int .i64 q4) (.slice P10 l10.length c10)))
  have f0:=hbox3.r.f 0
  have f1:=hbox3.r.f 1
  have f2:=hbox3.t.f 0
  have f3:=hbox3.t.f 1
  clear r1 r2 e1 e2 hS5 hS6
  have y0:=hbox3.r.c0
  have y1:=hbox3.r.c1
  have y2:=hbox3.t.c0
  have y3:=hbox3.t.c1
  go_wp2_with fail
  go_region_held3 (fun w'=>w'.cell? ⟨w.heap.size+1+1,0,none⟩=some (.int .i64 q3)∧w'.cell? ⟨w.heap.size+1+1,1,none⟩=some (.slice P9 l9.length c9)∧w'.cell? ⟨w.heap.size+1+1+1,0,none⟩=some (.int .i64 q4)∧w'.cell? ⟨w.heap.size+1+1+1,1,none⟩=some (.slice P10 l10.length c10))
   (first|with_reducible exact⟨hbox4.r.c0,hbox4.r.c1,hbox4.t.c0,hbox4.t.c1⟩|with_reducible exact⟨hbox5.r.c0,hbox5.r.c1,hbox5.t.c0,hbox5.t.c1⟩|with_reducible exact⟨hbox6.r.c0,hbox6.r.c1,hbox6.t.c0,hbox6.t.c1⟩|fail) (fail)
  have z0:=hbox6.r.c0
  have z1:=hbox6.r.c1
  have z2:=hbox6.t.c0
  have z3:=hbox6.t.c1
  go_wp2_with fail
  exact bodyPost_ret (v:=.tuple #[.agg #[.int .i64 q3,.slice P9 l9.length c9],.agg #[.int .i64 q4,.slice P10 l10.length c10]]) (by simp[results,Tryz.results269,go_sem,z0,z1,z2,z3]) rfl ⟨_,_,rfl,⟨P9,l9,c9,by rw[←HF.out.1],hT5,ok9,nm9,hv9⟩,⟨P10,l10,c10,by rw[←HF.out.2],hT6,ok10,nm10,hv10⟩,hbox6.bel⟩
end Go.Proofs.YtbijncndjlmmdaaGreatDoor

import Derived.Test.YtcfbjdplhgdpfaaGreatDoorTah
set_option maxHeartbeats 800000
set_option maxRecDepth 10000
namespace Go.Proofs.YtcfbjdplhgdpfaaGreatDoor
set_option linter.unusedVariables false
set_option linter.unusedSimpArgs false
theorem xXl {P:Prop}(h:P:=by simp[results,Tryz.results230,go_sem,z0,z1,z2,z3]):P:=h
abbrev yW2:=@List.mem_filter
abbrev zH2:=@beq_self_eq_true
abbrev yV1:=@Go.WideMaps.keyOf_string_mk
abbrev yU1:=@Go.Maps.string_keyed
abbrev zK1:=@of_decide_eq_true
abbrev zE1:=@List.all_eq_true
abbrev zM:=@List.mem_singleton
section
open Go.RowKit Go.Maps Go.MapKept Go.WideMaps
def sq (l:List (ByteArray×Value)):List (Value×Value):=l.map fun p=>(.string p.1,p.2)
theorem xRd (l:List (ByteArray×Value)) (z:ByteArray) (v:Value):sq l++[(.string z,v)]=sq (l++[(z,v)]):=by simp[sq]
def shK (l:List (ByteArray×Value)):Bool:=l.all fun p=>decide (p.1.size≤16)
def xSd (l:List (ByteArray×Value)) (z:ByteArray):List Value:=(l.filter fun p=>p.1.data.toList==z.data.toList).map (·.2)
theorem xTd {a b:ByteArray} (h:a.data.toList=b.data.toList):a=b:=by
 obtain⟨⟨a⟩⟩:=a;obtain⟨⟨b⟩⟩:=b;have h:a=b:=h;rw[h]
section
variable {P:Program} {k:TypeId} {l:List (ByteArray×Value)} {z:ByteArray} {v:Value}
theorem xUd (hk:P.underlying k=some .string) (h:shK l=true):∀p∈sq l,∃m,keyOf P k p.1=some m:=by
 intro p hp;obtain⟨q,hq,rfl⟩:=xY0.1 hp;have:=zK1 (zE1.1 h q hq);exact⟨_,yV1 hk xXm⟩
theorem xVd (h:xSd l z=[]):∀p∈sq l,p.1≠ .string z:=by
 intro p hp e;obtain⟨q,hq,rfl⟩:=xY0.1 hp;injection e with e
 have:q∈l.filter fun p=>p.1.data.toList==z.data.toList:=yW2.2 ⟨hq,by rw[e];exact zH2 _⟩;have g:=List.mem_map_of_mem (f:=fun p:ByteArray×Value=>p.2) this;rw[show(l.filter fun p=>p.1.data.toList==z.data.toList).map (fun p=>p.2)=[]from h]at g;cases g
theorem xWd (h:xSd l z=[v]):(∃v',(.string z,v')∈sq l)∧∀p∈sq l,p.1=.string z→p.2=v:=by
 constructor
 · obtain⟨q,hq⟩:=List.exists_mem_of_ne_nil (l.filter fun p=>p.1.data.toList==z.data.toList) (fun e=>by unfold xSd at h;rw[e]at h;cases h)
   obtain⟨h1,h2⟩:=yW2.1 hq;exact⟨q.2,xY0.2 ⟨q,h1,by rw[xTd (eq_of_beq h2)]⟩⟩
 · intro p hp e
   obtain⟨q,hq,rfl⟩:=xY0.1 hp;injection e with e
   have:q∈l.filter fun p=>p.1.data.toList==z.data.toList:=yW2.2 ⟨hq,by rw[e];exact zH2 _⟩;have g:=List.mem_map_of_mem (f:=fun p:ByteArray×Value=>p.2) this;rw[show(l.filter fun p=>p.1.data.toList==z.data.toList).map (fun p=>p.2)=[v]from h]at g;exact zM.1 g
variable {w:World} {t e:TypeId} {b:Nat}
theorem xXd (h:Mq w b (sq l)) (ht:P.underlying t=some (.map k e)) (hk:P.underlying k=some .string) (hs:shK l=true) (hz:z.size≤maxLen) (hv:xSd l z=[v]):
 (Instr.lookup t (.map (some b)) (.string z) true).run P w=.ok (.tuple #[v,.bool true]) w:=
 h.look ht (yU1 hk) (yV1 hk hz) true (xUd hk hs) (xWd hv).1 (xWd hv).2
theorem xYd (h:Mq w b (sq l)) (ht:P.underlying t=some (.map k e)) (hk:P.underlying k=some .string) (hs:shK l=true) (hz:z.size≤maxLen) {zv:Value} (he:(zeroValue e).run P w=.ok zv w) (hv:xSd l z=[]):
 (Instr.lookup t (.map (some b)) (.string z) true).run P w=.ok (.tuple #[zv,.bool false]) w:=
 h.miss ht (yU1 hk) (yV1 hk hz) true he (xUd hk hs) (xVd hv)
variable {ops:Array Oper} {rest:List Oper} {o:Oper} {a:Act} {Q:Exit→Act→World→Prop}
theorem xZd (hg:o.guard=none) (m x u:Operand) (hop:o.op=Op.insert t m x u) (ht:P.underlying t=some (.map k e)) (hk:P.underlying k=some .string)
 (hm:a.eval m=.map (some b)) (h:Mq w b (sq l)) (f:Nat) (hx:a.eval x=.string z) (hv:a.eval u=.func (.func f) #[] #[]) (hs:shK ((z,.bool true)::l)=true) (hn:xSd l z=[])
 (hK:∀w',Mq w' b (sq (l++[(z,.func (.func f) #[] #[])]))→w.grownBy w' (some b)→wpList P ops Q rest (a.put o.dst undef) w'):wpList P ops Q (o::rest) a w:=by
 have hs':(decide (z.size≤16)&&shK l)=true:=hs;obtain⟨h1,h2⟩:=Bool.and_eq_true_iff.1 hs';exact yN6 w hg m x u t hop k e ht (yU1 hk) b (sq l) hm h _ _ hx hv _ (yV1 hk (by have:=zK1 h1;unfold maxLen;omega)) (xUd hk h2) (xVd hn) fun w' hT=>by
  rw[xRd]at hT;exact hK w' hT
theorem zAe (hg:o.guard=none) (m x u:Operand) (hop:o.op=Op.mapUpdate t m x u) (ht:P.underlying t=some (.map k e)) (hk:P.underlying k=some .string)
 (hm:a.eval m=.map (some b)) (h:Mq w b (sq l)) (hx:a.eval x=.string z) (hv:a.eval u=v) (hs:shK ((z,.bool true)::l)=true) (hn:xSd l z=[])
 (hK:∀w',Mq w' b (sq (l++[(z,v)]))→w.grownBy w' (some b)→wpList P ops Q rest (a.put o.dst undef) w'):wpList P ops Q (o::rest) a w:=by
 have hs':(decide (z.size≤16)&&shK l)=true:=hs;obtain⟨h1,h2⟩:=Bool.and_eq_true_iff.1 hs';refine wpList_plain hg fun K' hK'=> ?_;obtain⟨w',hrun,r1,r2⟩:=h.put ht (yU1 hk) (yV1 hk (by have:=zK1 h1;unfold maxLen;omega)) v (xUd hk h2) (xVd hn);rw[xRd]at r1;unfold Oper.wp;simp[execOp,hop,hm,hx,hv,hrun,Result.andThen]
 exact hK' _ _ (hK w' r1 r2)
end
theorem zBe {W w:World} {g b:Nat} {s:ByteArray} {p:Nat} (h:W.heap[g]?=some (.stringIter s p)) (hb:W.grownBy w (some b)) (hne:g≠b):w.heap[g]?=some (.stringIter s p):=
 (hb.block g (zZ0.1 h).1 (fun e=>by injection e with e;exact hne e)).trans h
theorem Mq.iterAt {w:World} {b g:Nat} {l:List (Value×Value)} (h:Mq w b l) (hne:b≠g) (s:ByteArray) (p:Nat):Mq (w.iterAt g s p) b l:=by
 obtain⟨es,clock,he,hm⟩:=h;exact⟨es,clock,(Lib.iterAt_other w g b s p hne).trans he,hm⟩
end
section
open Go.RowKit
theorem Sz.drew_ {w:World} {A:Option Addr} {l:List Nat} (h:Sz w A l):Sz w.drew A l:=h
theorem B4.drew {w W:World} {s0 s1 s2 s3:Int} {P0 P1 P2 P3:Option Addr} {n0 n1 n2 n3 c0 c1 c2 c3:Nat} (h:B4 w W s0 P0 n0 c0 s1 P1 n1 c1 s2 P2 n2 c2 s3 P3 n3 c3):B4 w W.drew s0 P0 n0 c0 s1 P1 n1 c1 s2 P2 n2 c2 s3 P3 n3 c3:=⟨h.a,h.b,h.r,h.t,h.bel.drew⟩
def zCe (x y:Int) (w:World) (e:Ending) (w':World):Prop:=∃v u,e=.returned (.tuple #[v,u])∧zNe w' v (fq x y)∧zNe w' u (fr x y)∧Below w.heap.size w w'
theorem zDe (x y:Int):IntKind.i64.wrap (x.sign*y.sign)=x.sign*y.sign:=by
 rcases yUf x with h|h|h<;>rcases yUf y with h'|h'|h'<;>first|(rw[h,h'];rfl)|(rw[h,h'];simp;rfl)|(subst h;simp;rfl)|(subst h';simp;rfl)
theorem zEe (x y:Int):x.sign*y.sign=1∨x.sign*y.sign= -1∨(x=0∨y=0):=by
 rcases yUf x with h|h|h<;>rcases yUf y with h'|h'|h'
 · rw[h,h'];exact .inl rfl
 · rw[h,h'];exact .inr (.inl rfl)
 · exact .inr (.inr (.inr h'))
 · rw[h,h'];exact .inr (.inl rfl)
 · rw[h,h'];exact .inl rfl
 · exact .inr (.inr (.inr h'))
 · exact .inr (.inr (.inl h))
 · exact .inr (.inr (.inl h))
 · exact .inr (.inr (.inl h))
theorem zFe (x y:Int) (A B:Option Addr) (l m:List Nat) (c d:Nat) (w:World) (hA:Sz w A l) (hB:Sz w B m) (ol:Ok l) (om:Ok m) (nl:yJa l) (nm:yJa m) (hv:val l=x.natAbs) (hv':val m=y.natAbs) (hl:l.length≤50) (hm:m.length≤50) (hy:y≠0)
 (hcase:x.sign*((x.natAbs%y.natAbs:Nat):Int)=0∨(x.sign*((x.natAbs%y.natAbs:Nat):Int)).sign=y.sign):
 Calls Tryz.prog 230 #[.agg #[.int .i64 x.sign,.slice A l.length c],.agg #[.int .i64 y.sign,.slice B m.length d]] w (zCe x y w):=by
 have hcut:=fun(w1:World) hA1 hB1=>xCb A B l m c d w1 hA1 hB1 ol om nl nm yEn yEn (by rintro rfl;rw[yKa]at hv';omega);rw[hv,hv']at hcut;have a1:=yVa ol;rw[hv]at a1;have a2:=xGf a1 yEn;have a3:=xHf (b:=0) a2 yEn;have hq:=Nat.div_le_self x.natAbs y.natAbs;have hr:=Nat.mod_le x.natAbs y.natAbs;obtain⟨e1,e2⟩:=xSf hy hcase;have s1:IntKind.i64.wrap (x.sign*y.sign)=1∨IntKind.i64.wrap (x.sign*y.sign)= -1∨x.natAbs/y.natAbs=0:=by
  rw[zDe];exact yWf (zEe x y) fun h=>h.elim (fun h=>by rw[h];simp) (fun h=>absurd h hy)
 have s2:x.sign=1∨x.sign= -1∨x.natAbs%y.natAbs=0:=yWf (yUf x) fun h=>by rw[h];simp
 obtain⟨q1,hq1⟩:∃q,q=(fq x y).sign:=⟨_,rfl⟩
 obtain⟨q2,hq2⟩:∃q,q=(fr x y).sign:=⟨_,rfl⟩
 have HM1:=zC (xFf (IntKind.i64.wrap (x.sign*y.sign)) (z:=fq x y) (q:=q1) (n:=x.natAbs/y.natAbs) (by rw[zDe];exact e1.symm) hq1.symm s1 yEn);have HM2:=zC (xFf x.sign (z:=fr x y) (q:=q2) (n:=x.natAbs%y.natAbs) e2.symm hq2.symm s2 yEn);have hc2:q2=0∨q2=y.sign:=by
  rw[hq2,e2];rcases hcase with h|h
  · rw[h];exact .inl rfl
  · exact .inr h
 have HQ:=zC (And.intro hq1 hq2);have H1:=zC hcut;obtain⟨sx,hsx⟩:∃sx,sx=x.sign:=⟨_,rfl⟩
 obtain⟨sy,hsy⟩:∃sy,sy=y.sign:=⟨_,rfl⟩
 rw[←hsy]at hc2;rw[←hsx,←hsy]at HM1 ⊢;rw[←hsx]at HM2;obtain⟨p,hp⟩:∃p,IntKind.i64.wrap (sx*sy)=p:=⟨_,rfl⟩
 rw[hp]at HM1;clear hcut a1 a2 a3 hq hr e1 e2 s1 s2 hq1 hq2 hsx hsy hcase hv hv';go_in;go_wp2_with fail;have hbox:=xUf w sx A l.length c sy B m.length d;generalize ((((w.alloc (.cells #[.int .i64 sx,.slice A l.length c] 200)).alloc (.cells #[.int .i64 sy,.slice B m.length d] 200)).alloc (.cells #[.int .i64 0,.slice none 0 0] 200)).alloc (.cells #[.int .i64 0,.slice none 0 0] 200))=W3 at hbox ⊢;refine(H1.out _ (hA.below hbox.bel) (hB.below hbox.bel)).mono ?_;rintro e W4 ⟨_,_,rfl,⟨Q,lq,qc,rfl,hQ,okq,nmq,hvq⟩,⟨R,lr,rc,rfl,hR,okr,nmr,hvr⟩,hb4⟩;have hbox0:=hbox.below hb4;clear hbox hb4;have k0:=hbox0.a.c0;have k1:=hbox0.b.c0;have k0':W4.drew.cell? ⟨w.heap.size,0,none⟩=some (.int .i64 sx):=k0;have k1':W4.drew.cell? ⟨w.heap.size+1,0,none⟩=some (.int .i64 sy):=k1;go_wp2_with fail;go_region_held3 (fun w'=>w'.cell? ⟨w.heap.size,0,none⟩=some (.int .i64 sx)∧w'.cell? ⟨w.heap.size+1,0,none⟩=some (.int .i64 sy))
  (first|with_reducible exact⟨hbox0.a.c0,hbox0.b.c0⟩|with_reducible exact⟨k0',k1'⟩|with_reducible exact⟨hbox1.a.c0,hbox1.b.c0⟩|with_reducible exact⟨hbox2.a.c0,hbox2.b.c0⟩|with_reducible exact⟨(hbox2.set_r _ _ _ _).a.c0,(hbox2.set_r _ _ _ _).b.c0⟩|with_reducible exact⟨((hbox2.set_r _ _ _ _).set_t _ _ _ _).a.c0,((hbox2.set_r _ _ _ _).set_t _ _ _ _).b.c0⟩|fail)
  (first
    |(go_at_call_of 243 (Value.int .i64 p);refine(HM1.out _ Q lq qc (by exact hQ) okq nmq hvq).mono ?_;rintro e w5 ⟨P5,l5,c5,rfl,hP5,ok5,nm5,hv5,hb5⟩;(first|have hbox1:=hbox0.below (yXf hb5)|have hbox1:=hbox0.below hb5);(first|have hR1:=hR.below (yXf hb5)|have hR1:=hR.below hb5))
    |(go_at_call_of 243 (Value.int .i64 sx);refine(HM2.out _ R lr rc (by exact hR1) okr nmr hvr).mono ?_;rintro e w6 ⟨P6,l6,c6,rfl,hP6,ok6,nm6,hv6,hb6⟩;have hbox2:=hbox1.below hb6;have hP5':=hP5.below hb6;have y0:=hbox2.r.c0;have y1:=hbox2.r.c1;have y2:=hbox2.t.c0;have y3:=hbox2.t.c1;have f0:=hbox2.r.f 0;have f1:=hbox2.r.f 1;have f2:=hbox2.t.f 0;have f3:=hbox2.t.f 1))
 have hbox3:=(hbox2.set_r q1 P5 l5.length c5).set_t q2 P6 l6.length c6;have hS5:=(hP5'.far hbox2.r.far (Only.two _ _ (.int .i64 q1) (.slice P5 l5.length c5))).far (hbox2.set_r q1 P5 l5.length c5).t.far (Only.two _ _ (.int .i64 q2) (.slice P6 l6.length c6));have hS6:=(hP6.far hbox2.r.far (Only.two _ _ (.int .i64 q1) (.slice P5 l5.length c5))).far (hbox2.set_r q1 P5 l5.length c5).t.far (Only.two _ _ (.int .i64 q2) (.slice P6 l6.length c6));generalize ((((w6.setCell ⟨w.heap.size+1+1,0,none⟩ (.int .i64 q1)).setCell ⟨w.heap.size+1+1,1,none⟩ (.slice P5 l5.length c5)).setCell ⟨w.heap.size+1+1+1,0,none⟩ (.int .i64 q2)).setCell ⟨w.heap.size+1+1+1,1,none⟩ (.slice P6 l6.length c6))=W7 at hbox3 hS5 hS6 ⊢;clear hbox0 hbox1 hbox2 hb5 hb6 y0 y1 y2 y3 f0 f1 f2 f3 k0 k1 k0' k1' hP5 hP5' hP6 hQ hR hR1 HM1 HM2 H1 hp;have t0:=hbox3.t.c0;have t1:=hbox3.t.c1;have r0:=hbox3.r.c0;have r1:=hbox3.r.c1;have b0:=hbox3.b.c0;have f0:=hbox3.r.f 0;have f1:=hbox3.r.f 1;have f2:=hbox3.t.f 0;have f3:=hbox3.t.f 1;have hbox4:=hbox3.drew;have hbox5:=(hbox3.set_r q1 P5 l5.length c5).drew;have hbox6:=((hbox3.set_r q1 P5 l5.length c5).set_t q2 P6 l6.length c6).drew;have hT5:Sz ((((W7.setCell ⟨w.heap.size+1+1,0,none⟩ (.int .i64 q1)).setCell ⟨w.heap.size+1+1,1,none⟩ (.slice P5 l5.length c5)).setCell ⟨w.heap.size+1+1+1,0,none⟩ (.int .i64 q2)).setCell ⟨w.heap.size+1+1+1,1,none⟩ (.slice P6 l6.length c6)).drew P5 l5:=
  Sz.drew_ ((hS5.far hbox3.r.far (Only.two _ _ (.int .i64 q1) (.slice P5 l5.length c5))).far (hbox3.set_r q1 P5 l5.length c5).t.far (Only.two _ _ (.int .i64 q2) (.slice P6 l6.length c6)))
 have hT6:Sz ((((W7.setCell ⟨w.heap.size+1+1,0,none⟩ (.int .i64 q1)).setCell ⟨w.heap.size+1+1,1,none⟩ (.slice P5 l5.length c5)).setCell ⟨w.heap.size+1+1+1,0,none⟩ (.int .i64 q2)).setCell ⟨w.heap.size+1+1+1,1,none⟩ (.slice P6 l6.length c6)).drew P6 l6:=
  Sz.drew_ ((hS6.far hbox3.r.far (Only.two _ _ (.int .i64 q1) (.slice P5 l5.length c5))).far (hbox3.set_r q1 P5 l5.length c5).t.far (Only.two _ _ (.int .i64 q2) (.slice P6 l6.length c6)))
 go_wp2_with fail;by_cases h0:q2=0
 · subst h0
   refine(zXe _ true rfl _).mono ?_;rintro e W8 ⟨rfl,rfl⟩;go_wp2_with fail;go_region_held3 (fun w'=>w'.cell? ⟨w.heap.size+1+1,0,none⟩=some (.int .i64 q1)∧w'.cell? ⟨w.heap.size+1+1,1,none⟩=some (.slice P5 l5.length c5)∧w'.cell? ⟨w.heap.size+1+1+1,0,none⟩=some (.int .i64 0)∧w'.cell? ⟨w.heap.size+1+1+1,1,none⟩=some (.slice P6 l6.length c6))
    (first|with_reducible exact⟨hbox4.r.c0,hbox4.r.c1,hbox4.t.c0,hbox4.t.c1⟩|with_reducible exact⟨hbox5.r.c0,hbox5.r.c1,hbox5.t.c0,hbox5.t.c1⟩|with_reducible exact⟨hbox6.r.c0,hbox6.r.c1,hbox6.t.c0,hbox6.t.c1⟩|fail) (fail)
   have z0:=hbox6.r.c0;have z1:=hbox6.r.c1;have z2:=hbox6.t.c0;have z3:=hbox6.t.c1;go_wp2_with fail;exact zE (v:=.tuple #[.agg #[.int .i64 q1,.slice P5 l5.length c5],.agg #[.int .i64 0,.slice P6 l6.length c6]]) xXl rfl ⟨_,_,rfl,⟨P5,l5,c5,by rw[←HQ.out.1],hT5,ok5,nm5,hv5⟩,⟨P6,l6,c6,by rw[←HQ.out.2],hT6,ok6,nm6,hv6⟩,hbox6.bel⟩
 · have h1:q2=sy:=by rcases hc2 with h|h;exact absurd h h0;exact h
   refine(zXe _ false (zT0.2 h0) _).mono ?_;rintro e W8 ⟨rfl,rfl⟩;have hn:(q2 != sy)=false:=by rw[h1];simp
   clear h1 hc2;go_wp2_with fail;go_region_held3 (fun w'=>w'.cell? ⟨w.heap.size+1+1,0,none⟩=some (.int .i64 q1)∧w'.cell? ⟨w.heap.size+1+1,1,none⟩=some (.slice P5 l5.length c5)∧w'.cell? ⟨w.heap.size+1+1+1,0,none⟩=some (.int .i64 q2)∧w'.cell? ⟨w.heap.size+1+1+1,1,none⟩=some (.slice P6 l6.length c6))
    (first|with_reducible exact⟨hbox4.r.c0,hbox4.r.c1,hbox4.t.c0,hbox4.t.c1⟩|with_reducible exact⟨hbox5.r.c0,hbox5.r.c1,hbox5.t.c0,hbox5.t.c1⟩|with_reducible exact⟨hbox6.r.c0,hbox6.r.c1,hbox6.t.c0,hbox6.t.c1⟩|fail) (fail)
   have z0:=hbox6.r.c0;have z1:=hbox6.r.c1;have z2:=hbox6.t.c0;have z3:=hbox6.t.c1;go_wp2_with fail;exact zE (v:=.tuple #[.agg #[.int .i64 q1,.slice P5 l5.length c5],.agg #[.int .i64 q2,.slice P6 l6.length c6]]) xXl rfl ⟨_,_,rfl,⟨P5,l5,c5,by rw[←HQ.out.1],hT5,ok5,nm5,hv5⟩,⟨P6,l6,c6,by rw[←HQ.out.2],hT6,ok6,nm6,hv6⟩,hbox6.bel⟩
end
end Go.Proofs.YtcfbjdplhgdpfaaGreatDoor

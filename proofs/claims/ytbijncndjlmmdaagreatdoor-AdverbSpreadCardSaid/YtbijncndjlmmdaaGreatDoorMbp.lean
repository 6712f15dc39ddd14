import Derived.Test.YtbijncndjlmmdaaGreatDoorMbo
set_option maxHeartbeats 6400000
set_option maxRecDepth 100000
namespace Go.Proofs.YtbijncndjlmmdaaGreatDoor
set_option linter.unusedVariables false
set_option linter.unusedSimpArgs false
open Go.RowKit
section
variable {W W0 w:World} {T:TypeId} {p:Value} {a b:Option Addr} {n c m d:Nat} {r:Option Ar×Int}
theorem idle_is (p1 p2:Addr) (w:World):CallsD Tryz.prog 70 #[.pointer (some p1),.pointer (some p2)] .returning w fun e u' w'=>e=.returned (.tuple #[])∧u'=.returning∧w'=w:=by
 refine callsD_of_wpS Tryz.func70 rfl fun c₀ cs hu=> ?_
 apply wpS_seq
 apply wpS_region
 simp[wpOpsS,go_sem,recoverD,hu,Tryz.ntmps70,Exit.thenS]
 refine wpS_cond (t:=false) (by simp[Act.eval,Array.replicate]) ?_
 simp only[Bool.false_eq_true,if_false]
 refine wpS_of_wp (wp_skip ?_)
 cases c₀
 simp_all[bodyPostS,results,Tryz.results70]
theorem head0 (W:World):Lv (fun w=>Bx w W.heap.size none 0 0 none 0 0∧Boxed w (W.heap.size+1) 28 (.int .i64 0)∧Below W.heap.size W w) ((W.alloc (.cells #[.slice none 0 0,.slice none 0 0] 25)).alloc (.cells #[.int .i64 0] 28)):=
 ⟨⟨(Bx.new _ _ _ _ _ _ _).alloc _,by have:=Boxed.new (W.alloc (.cells #[.slice none 0 0,.slice none 0 0] 25)) 28 (.int .i64 0);rwa [World.size_alloc]at this,((Below.refl _ _).alloc (Nat.le_refl _) _).alloc (by simp) _⟩⟩
theorem me_no {gr n0 c0 m0 d0:Nat} {a0 b0:Option Addr} {k k0:Int} (h:Bx w gr a0 n0 c0 b0 m0 d0) (he:Boxed w (gr+1) 28 (.int .i64 k0)) (hb:Below W.heap.size W w) (hg:W.heap.size≤gr):
 Bx (((w.setCell ⟨gr,0,none⟩ (.slice none 0 0)).setCell ⟨gr,1,none⟩ (.slice none 0 0)).setCell ⟨gr+1,0,none⟩ (.int .i64 k)) gr none 0 0 none 0 0∧Boxed (((w.setCell ⟨gr,0,none⟩ (.slice none 0 0)).setCell ⟨gr,1,none⟩ (.slice none 0 0)).setCell ⟨gr+1,0,none⟩ (.int .i64 k)) (gr+1) 28 (.int .i64 k)∧
 MEnd (none,k) W (.returned (.tuple #[.agg #[.slice none 0 0,.slice none 0 0],.int .i64 k])) (((w.setCell ⟨gr,0,none⟩ (.slice none 0 0)).setCell ⟨gr,1,none⟩ (.slice none 0 0)).setCell ⟨gr+1,0,none⟩ (.int .i64 k)):=by
 have hE2:Boxed ((w.setCell ⟨gr,0,none⟩ (.slice none 0 0)).setCell ⟨gr,1,none⟩ (.slice none 0 0)) (gr+1) 28 (.int .i64 k0):=((Below.heap_setCell _ _ _ _ (by simp)).trans (Below.heap_setCell _ _ _ _ (by simp))).trans he
 exact⟨(h.set none 0 0 none 0 0).setOther (by simp) _,hE2.set _,⟨none,0,0,none,0,0,rfl,⟨Vl.none_ _,cp0,fun j hj=>absurd hj (Nat.not_lt_zero _),ais_none⟩,(below_made hb hg _ _).setCell (p:=⟨gr+1,0,none⟩) (by show _≤gr+1;omega) _⟩⟩
def Nrm (Q:Exit→Act→World→Prop):Exit→Act→World→Prop
 | .normal,a,w=>Q .normal a w
 |_,_,_=>False
theorem nrm_in {Q:Exit→Act→World→Prop} {a:Act} {w:World} (h:Q .normal a w):Nrm Q .normal a w:=h
theorem wp_nrm {P:Program} {c:Code} {Q:Exit→Act→World→Prop} {a:Act} {w:World} (h:c.wp P (Nrm Q) a w):c.wp P Q a w:=
 wp_mono h (by
  rintro e a w hh
  cases e<;>first|exact hh|exact hh.elim)
theorem mend_drew {e:Ending} (h:MEnd r W e w):MEnd r W e w.drew:=by
 obtain⟨a,n,c,b,m,d,h1,h2,h3⟩:=h
 exact⟨a,n,c,b,m,d,h1,h2.below (Below.drew (Below.refl _ _)),h3.drew⟩
theorem me_yes {gr n0 c0 m0 d0:Nat} {a0 b0:Option Addr} {q:Ar} (h:Bx w gr a0 n0 c0 b0 m0 d0) (he:Boxed w (gr+1) 28 (.int .i64 0)) (hb:Below W.heap.size W w) (hg:W.heap.size≤gr) (hq:Rok (some q)) (hs:Sl w a n q.1) (ht:St w b m (q.2.map S)) (hc:Cp n c m d):
 Bx (((w.setCell ⟨gr,0,none⟩ (.slice a n c)).setCell ⟨gr,1,none⟩ (.slice b m d)).setCell ⟨gr+1,0,none⟩ (.int .i64 0)) gr a n c b m d∧Boxed (((w.setCell ⟨gr,0,none⟩ (.slice a n c)).setCell ⟨gr,1,none⟩ (.slice b m d)).setCell ⟨gr+1,0,none⟩ (.int .i64 0)) (gr+1) 28 (.int .i64 0)∧
 MEnd (some q,0) W (.returned (.tuple #[.agg #[.slice a n c,.slice b m d],.int .i64 0])) (((w.setCell ⟨gr,0,none⟩ (.slice a n c)).setCell ⟨gr,1,none⟩ (.slice b m d)).setCell ⟨gr+1,0,none⟩ (.int .i64 0)):=by
 have hE2:Boxed ((w.setCell ⟨gr,0,none⟩ (.slice a n c)).setCell ⟨gr,1,none⟩ (.slice b m d)) (gr+1) 28 (.int .i64 0):=((Below.heap_setCell _ _ _ _ (by simp)).trans (Below.heap_setCell _ _ _ _ (by simp))).trans he
 refine⟨(h.set a n c b m d).setOther (by simp) _,hE2.set _,⟨a,n,c,b,m,d,rfl,⟨⟨(h.sl hs _ _).again hE2.cell,(h.st ht _ _).notext hE2.cell (fun s e=>by cases e),Nat.le_trans hc.md (by have:=hc.dm;unfold maxLen at this;omega)⟩,hc,hq.sz ht.1.symm,hq.ais⟩,(below_made hb hg _ _).setCell (p:=⟨gr+1,0,none⟩) (by show _≤gr+1;omega) _⟩⟩
theorem answer_nil (fN:FuncId) (cN:Array Value) (sA:Option Addr) (sN sC:Nat) (W:World):Calls Tryz.prog 33 #[.nilIface,.func (.func fN) #[] cN,.slice sA sN sC] W (MEnd (none,1) W):=by
 have h:=head0 W
 go_enter_defers Tryz.func33,Tryz.ntmps33
 go_upto_region 1 with fail
 obtain⟨w4,hw4⟩:∃z,z=(W.alloc (.cells #[.slice none 0 0,.slice none 0 0] 25)).alloc (.cells #[.int .i64 0] 28):=⟨_,rfl⟩
 rw[←hw4]at h ⊢
 clear hw4
 have y0:=h.out.1.c0
 have y3:=h.out.1.c1
 have f0:=h.out.1.f 0
 have f1:=h.out.1.f 1
 have s0:=h.out.2.1.cell
 have s1:=h.out.2.1.frozen
 have HH:=Lib.hid h
 clear h
 go_wp2_with fail
 obtain⟨g0,g1,g2⟩:=me_no (k:=1) HH.out.out.1 HH.out.out.2.1 HH.out.out.2.2 (Nat.le_refl _)
 have r0:=g0.c0
 have r1:=g0.c1
 have r2:=g1.cell
 exact⟨.tuple #[.agg #[.slice none 0 0,.slice none 0 0],.int .i64 1],by simp[results,Tryz.results33,Tryz.f33,go_sem,r0,r1,r2],g2⟩
theorem answer_no {gh:Nat} {rs:List Rc} {os:List (Option Ar)} (fN:FuncId) (cN:Array Value) (hR:InR W gh rs os) (hk:rs.length≤1000) (hno:os.any (·.isNone)=true):Calls Tryz.prog 33 #[.iface T p,.func (.func fN) #[] cN,.slice (some ⟨gh,0,none⟩) rs.length rs.length] W (MEnd (none,1) W):=by
 have h:=head0 W
 have KC:=Lib.hid (Contains_is (hR.below h.out.2.2) hk)
 rw[hno]at KC
 generalize rs.length=k at*
 clear hR hno
 go_enter_defers Tryz.func33,Tryz.ntmps33
 go_upto_region 1 with fail
 obtain⟨w4,hw4⟩:∃z,z=(W.alloc (.cells #[.slice none 0 0,.slice none 0 0] 25)).alloc (.cells #[.int .i64 0] 28):=⟨_,rfl⟩
 rw[←hw4]at h KC ⊢
 clear hw4
 go_wp2_with fail
 refine KC.out.mono ?_
 rintro e w5 ⟨rfl,hq⟩
 replace h:=go_to h hq
 have y0:=h.out.1.c0
 have y3:=h.out.1.c1
 have f0:=h.out.1.f 0
 have f1:=h.out.1.f 1
 have s0:=h.out.2.1.cell
 have s1:=h.out.2.1.frozen
 have HH:=Lib.hid h
 clear h hq
 go_wp2_with fail
 obtain⟨g0,g1,g2⟩:=me_no (k:=1) HH.out.out.1 HH.out.out.2.1 HH.out.out.2.2 (Nat.le_refl _)
 have r0:=g0.c0
 have r1:=g0.c1
 have r2:=g1.cell
 exact⟨.tuple #[.agg #[.slice none 0 0,.slice none 0 0],.int .i64 1],by simp[results,Tryz.results33,Tryz.f33,go_sem,r0,r1,r2],g2⟩
theorem answer_err {gh:Nat} {rs:List Rc} {os:List (Option Ar)} {fN:FuncId} {cN:Array Value} (hR:InR W gh rs os) (hk:rs.length≤1000) (hno:os.any (·.isNone)=false) (ent:∀args w,(callFunc fN args).run Tryz.prog w=.ok (.enter fN args) w) {k:Int} (hk0:k≠0)
 (hc:∀w,Below W.heap.size W w→Calls Tryz.prog fN cN w (VE (none,k) fun w'=>Below w.heap.size w w')):Calls Tryz.prog 33 #[.iface T p,.func (.func fN) #[] cN,.slice (some ⟨gh,0,none⟩) rs.length rs.length] W (MEnd (none,k) W):=by
 have hmf:∀(fn:Fn) (first cap:Array Value) (w:World),(Instr.makeFunc fn first cap).run Tryz.prog w=.ok (.func fn first cap) w:=fun _ _ _ _=>rfl
 have h:=head0 W
 have KC:=Lib.hid (Contains_is (hR.below h.out.2.2) hk)
 have KT:=Lib.hid hc
 rw[hno]at KC
 generalize rs.length=k9 at*
 clear hR hno hc
 go_enter_defers Tryz.func33,Tryz.ntmps33
 go_upto_region 1 with fail
 obtain⟨w4,hw4⟩:∃z,z=(W.alloc (.cells #[.slice none 0 0,.slice none 0 0] 25)).alloc (.cells #[.int .i64 0] 28):=⟨_,rfl⟩
 rw[←hw4]at h KC ⊢
 clear hw4
 go_wp2_with fail
 refine KC.out.mono ?_
 rintro e w5 ⟨rfl,hq⟩
 replace h:=go_to h hq
 clear KC hq
 go_wp2_with fail
 refine(KT.out _ h.out.2.2).mono ?_
 rintro e w6 ⟨at_,nt,ct,bt,mt,dt,rfl,hv,hq⟩
 replace h:=go_to h hq
 clear KT hv hq
 have y0:=h.out.1.c0
 have y3:=h.out.1.c1
 have f0:=h.out.1.f 0
 have f1:=h.out.1.f 1
 have s0:=h.out.2.1.cell
 have s1:=h.out.2.1.frozen
 have hS:=h.out.1.set at_ nt ct bt mt dt
 have hS2:=hS.setOther (p:=⟨W.heap.size+1,0,none⟩) (by simp) (.int .i64 k)
 have hE2:Boxed ((w6.setCell ⟨W.heap.size,0,none⟩ (.slice at_ nt ct)).setCell ⟨W.heap.size,1,none⟩ (.slice bt mt dt)) (W.heap.size+1) 28 (.int .i64 0):=((Below.heap_setCell _ _ _ _ (by simp)).trans (Below.heap_setCell _ _ _ _ (by simp))).trans h.out.2.1
 have hE3:=hE2.set (.int .i64 k)
 have hb6:=(below_made h.out.2.2 (Nat.le_refl W.heap.size) (.slice at_ nt ct) (.slice bt mt dt)).setCell (p:=⟨W.heap.size+1,0,none⟩) (by show _≤W.heap.size+1;omega) (.int .i64 k)
 have t0:=hE2.cell
 have t1:=hE2.frozen
 have HH:=Lib.hid (And.intro hS2 (And.intro hE3 hb6))
 clear h hS hS2 hE2 hE3 hb6
 go_upto_region 5 with fail
 obtain⟨w7,hw7⟩:∃z,z=((w6.setCell ⟨W.heap.size,0,none⟩ (.slice at_ nt ct)).setCell ⟨W.heap.size,1,none⟩ (.slice bt mt dt)).setCell ⟨W.heap.size+1,0,none⟩ (.int .i64 k):=⟨_,rfl⟩
 rw[←hw7]at HH ⊢
 clear hw7 y0 y3 f0 f1 s0 s1 t0 t1
 have y0:=HH.out.1.c0
 have y3:=HH.out.1.c1
 have f0:=HH.out.1.f 0
 have f1:=HH.out.1.f 1
 have s0:=HH.out.2.1.cell
 have s1:=HH.out.2.1.frozen
 go_wp2_with fail
 go_region
 all_goals
  go_wp2_with fail
  obtain⟨g0,g1,g2⟩:=me_no (k:=k) HH.out.1 HH.out.2.1 HH.out.2.2 (Nat.le_refl _)
  have r0:=g0.c0
  have r1:=g0.c1
  have r2:=g1.cell
  refine leaves_cons (f:=70) (args:=#[.pointer (some ⟨W.heap.size,0,none⟩),.pointer (some ⟨W.heap.size+1,0,none⟩)]) (by simp) (by simp[go_sem]) ?_
  refine(idle_is _ _ _).mono ?_
  rintro e u' w'' ⟨rfl,rfl,rfl⟩
  exact⟨.tuple #[.agg #[.slice none 0 0,.slice none 0 0],.int .i64 k],by simp[results,Tryz.results33,Tryz.f33,go_sem,r0,r1,r2],mend_drew g2⟩
theorem answer_ok {gh:Nat} {rs:List Rc} {os:List (Option Ar)} {fN:FuncId} {cN:Array Value} (hR:InR W gh rs os) (hk:rs.length≤1000) (hno:os.any (·.isNone)=false) (ent:∀args w,(callFunc fN args).run Tryz.prog w=.ok (.enter fN args) w) {q:Ar} (hq:Rok (some q))
 (hc:∀w,Below W.heap.size W w→Calls Tryz.prog fN cN w (VE (some q,0) fun w'=>Below w.heap.size w w')):Calls Tryz.prog 33 #[.iface T p,.func (.func fN) #[] cN,.slice (some ⟨gh,0,none⟩) rs.length rs.length] W (MEnd (some q,0) W):=by
 have hmf:∀(fn:Fn) (first cap:Array Value) (w:World),(Instr.makeFunc fn first cap).run Tryz.prog w=.ok (.func fn first cap) w:=fun _ _ _ _=>rfl
 have h:=head0 W
 have KC:=Lib.hid (Contains_is (hR.below h.out.2.2) hk)
 have KT:=Lib.hid hc
 rw[hno]at KC
 generalize rs.length=k9 at*
 have HQ:=Lib.hid hq
 clear hR hno hc hq
 go_enter_defers Tryz.func33,Tryz.ntmps33
 go_upto_region 1 with fail
 obtain⟨w4,hw4⟩:∃z,z=(W.alloc (.cells #[.slice none 0 0,.slice none 0 0] 25)).alloc (.cells #[.int .i64 0] 28):=⟨_,rfl⟩
 rw[←hw4]at h KC ⊢
 clear hw4
 go_wp2_with fail
 refine KC.out.mono ?_
 rintro e w5 ⟨rfl,hq⟩
 replace h:=go_to h hq
 clear KC hq
 go_wp2_with fail
 refine(KT.out _ h.out.2.2).mono ?_
 rintro e w6 ⟨at_,nt,ct,bt,mt,dt,rfl,hv,hq⟩
 replace h:=go_to h hq
 have HV:=Lib.hid (hv q rfl)
 clear KT hv hq
 have y0:=h.out.1.c0
 have y3:=h.out.1.c1
 have f0:=h.out.1.f 0
 have f1:=h.out.1.f 1
 have s0:=h.out.2.1.cell
 have s1:=h.out.2.1.frozen
 have hS:=h.out.1.set at_ nt ct bt mt dt
 have hV6:=HV.out
 have hS2:=hS.setOther (p:=⟨W.heap.size+1,0,none⟩) (by simp) (.int .i64 0)
 have hE2:Boxed ((w6.setCell ⟨W.heap.size,0,none⟩ (.slice at_ nt ct)).setCell ⟨W.heap.size,1,none⟩ (.slice bt mt dt)) (W.heap.size+1) 28 (.int .i64 0):=((Below.heap_setCell _ _ _ _ (by simp)).trans (Below.heap_setCell _ _ _ _ (by simp))).trans h.out.2.1
 have hE3:=hE2.set (.int .i64 0)
 have hb6:=(below_made h.out.2.2 (Nat.le_refl W.heap.size) (.slice at_ nt ct) (.slice bt mt dt)).setCell (p:=⟨W.heap.size+1,0,none⟩) (by show _≤W.heap.size+1;omega) (.int .i64 0)
 have t0:=hE2.cell
 have t1:=hE2.frozen
 have HH:=Lib.hid (And.intro hS2 (And.intro hE3 (And.intro hb6 (And.intro ((h.out.1.sl hV6.s (.slice at_ nt ct) (.slice bt mt dt)).again hE2.cell) ((h.out.1.st hV6.t (.slice at_ nt ct) (.slice bt mt dt)).notext hE2.cell (v:=.int .i64 0) (fun s e=>by cases e))))))
 clear h hS hS2 hE2 hE3 hb6 HV hV6
 go_upto_region 5 with fail
 obtain⟨w7,hw7⟩:∃z,z=((w6.setCell ⟨W.heap.size,0,none⟩ (.slice at_ nt ct)).setCell ⟨W.heap.size,1,none⟩ (.slice bt mt dt)).setCell ⟨W.heap.size+1,0,none⟩ (.int .i64 0):=⟨_,rfl⟩
 rw[←hw7]at HH ⊢
 clear hw7 y0 y3 f0 f1 s0 s1 t0 t1
 have y0:=HH.out.1.c0
 have y3:=HH.out.1.c1
 have f0:=HH.out.1.f 0
 have f1:=HH.out.1.f 1
 have s0:=HH.out.2.1.cell
 have s1:=HH.out.2.1.frozen
 have hn1:nt≤1000000:=by
  have h1:=HH.out.2.2.2.1.1
  have h2:=(szE_may.1 HQ.out.1).len
  omega
 have hm1:mt≤1000000:=by
  have h1:=HH.out.2.2.2.2.1
  have h2:=HQ.out.2.1
  have h3:=(szE_may.1 HQ.out.1).pr
  rw[List.length_map]at h1
  omega
 have QI:Hid (∀z,Below w7.heap.size w7 z→Calls Tryz.prog 71 #[.slice at_ nt ct] z (fun e w'=>∃a' c',e=.returned (.slice a' nt c')∧w'.ownsRow w7.heap.size 3 1 (.slice a' nt c') nt (valsI q.1)∧Below w7.heap.size w7 w')):=
  Lib.hid fun z hz=>(Clone_o _ _ _ _ _ (HH.out.2.2.2.1.below hz) hn1).mono fun e w' ⟨a',c',h1,h2,h3⟩=>⟨a',c',h1,own_base h2 hz.size,hz.trans (h3.mono hz.size)⟩
 have QS:Hid (∀z a1 c1,Below w7.heap.size w7 z→z.ownsRow w7.heap.size 3 1 (.slice a1 nt c1) nt (valsI q.1)→Calls Tryz.prog 66 #[.slice bt mt dt] z (fun e w'=>∃a' c',e=.returned (.slice a' mt c')∧w'.ownsRow w7.heap.size 9 1 (.slice a' mt c') mt (valsS (q.2.map S))∧w'.ownsRow w7.heap.size 3 1 (.slice a1 nt c1) nt (valsI q.1)∧Below w7.heap.size w7 w')):=
  Lib.hid fun z a1 c1 hz ho=>(CloneS_o _ _ _ _ _ (HH.out.2.2.2.2.below hz) hm1).mono fun e w' ⟨a',c',h1,h2,h3⟩=>⟨a',c',h1,own_base h2 hz.size,own_below ho h3,hz.trans (h3.mono hz.size)⟩
 have hq:Below w7.heap.size w7 w7:=Below.refl _ _
 have HX:Hid (∀z,Below w7.heap.size w7 z→Bx z W.heap.size at_ nt ct bt mt dt∧Boxed z (W.heap.size+1) 28 (.int .i64 0)):=Lib.hid fun z hz=>⟨HH.out.1.below hz HH.out.1.lt,boxed_bel HH.out.2.1 hz⟩
 go_wp2_with fail
 refine wp_nrm ?_
 go_region_with (first
  |(go_at_call 71;(with_reducible refine(QI.out _ (by first|exact hq|exact Below.drew hq)).mono ?_);rintro e w8 ⟨ai,ci,rfl,hoi,hq8⟩;have hq:=hq8;have c0:=(HX.out _ hq).1.c0;have c1:=(HX.out _ hq).1.c1)
  |(go_at_call 66;(with_reducible refine(QS.out _ ai ci (by first|exact hq|exact Below.drew hq) (by first|exact hoi|exact own_drew hoi)).mono ?_);rintro e w9 ⟨as_,cs_,rfl,hos,hoi2,hq9⟩;have hq:=hq9;have c0:=(HX.out _ hq).1.c0;have c1:=(HX.out _ hq).1.c1;have d0:=(HX.out _ hq).1.f 0;have d1:=(HX.out _ hq).1.f 1;have d2:=(HX.out _ hq).2.cell;have d3:=(HX.out _ hq).2.frozen))
 all_goals
  refine nrm_in ?_
  go_wp2_with fail
  obtain⟨g0,g1,g2⟩:=me_yes (W:=W) (HX.out _ hq9).1 (HX.out _ hq9).2 (HH.out.2.2.1.trans (hq9.mono HH.out.2.2.1.size)) (Nat.le_refl _) HQ.out (own_sl hoi2) (own_st hos) ⟨(own_caps hoi2).1,(own_caps hoi2).2,(own_caps hos).1,(own_caps hos).2⟩
  have r0:=g0.c0
  have r1:=g0.c1
  have r2:=g1.cell
  refine leaves_cons (f:=70) (args:=#[.pointer (some ⟨W.heap.size,0,none⟩),.pointer (some ⟨W.heap.size+1,0,none⟩)]) (by simp) (by simp[go_sem]) ?_
  refine(idle_is _ _ _).mono ?_
  rintro e u' w'' ⟨rfl,rfl,rfl⟩
  exact⟨.tuple #[.agg #[.slice ai nt ci,.slice as_ mt cs_],.int .i64 0],by simp[results,Tryz.results33,Tryz.f33,go_sem,r0,r1,r2],(by first|exact g2|exact mend_drew g2)⟩
end
end Go.Proofs.YtbijncndjlmmdaaGreatDoor
namespace Go.Proofs.YtbijncndjlmmdaaGreatDoor
set_option linter.unusedVariables false
set_option linter.unusedSimpArgs false
open Go.RowKit
section
variable {W W0 w:World} {a b a2 b2:Option Addr} {n c m d m1 c2 m2 d2:Nat} {x y:Ar} {T:TypeId} {p:Value} {n1 n2 n0:FuncId} {f:Ar→Option Ar×Int} {g:Ar→Ar→Option Ar×Int} {u:Option Ar} {l l2:List Int} {es es2:List ByteArray} {o o2:Option Ar} {r:Option Ar×Int}
theorem answer_is {gh:Nat} {rs:List Rc} {os:List (Option Ar)} {fN:FuncId} {cN:Array Value} (hR:InR W gh rs os) (hk:rs.length≤1000) (hno:os.any (·.isNone)=false) (ent:∀args w,(callFunc fN args).run Tryz.prog w=.ok (.enter fN args) w) (ht:Told r∧Rok r.1)
 (hc:∀w,Below W.heap.size W w→Calls Tryz.prog fN cN w (VE r fun w'=>Below w.heap.size w w')):Calls Tryz.prog 33 #[.iface T p,.func (.func fN) #[] cN,.slice (some ⟨gh,0,none⟩) rs.length rs.length] W (MEnd r W):=by
 rcases ht with⟨⟨q,rfl⟩|⟨k,rfl,h1,h2⟩,hr⟩
 · exact answer_ok hR hk hno ent hr hc
 · exact answer_err hR hk hno ent (by omega) hc
theorem answer_no2 {gh k:Nat} {rs:List Rc} {os:List (Option Ar)} (fN:FuncId) (cN:Array Value) (hR:InR W gh rs os) (hk2:rs.length=k) (hk:k≤1000) (hno:os.any (·.isNone)=true):Calls Tryz.prog 33 #[.iface T p,.func (.func fN) #[] cN,.slice (some ⟨gh,0,none⟩) k k] W (MEnd (none,1) W):=by
 subst hk2
 exact answer_no _ _ hR hk hno
theorem answer_is2 {gh k:Nat} {rs:List Rc} {os:List (Option Ar)} {fN:FuncId} {cN:Array Value} (hR:InR W gh rs os) (hk2:rs.length=k) (hk:k≤1000) (hno:os.any (·.isNone)=false) (ent:∀args w,(callFunc fN args).run Tryz.prog w=.ok (.enter fN args) w) (ht:Told r∧Rok r.1)
 (hc:∀w,Below W.heap.size W w→Calls Tryz.prog fN cN w (VE r fun w'=>Below w.heap.size w w')):Calls Tryz.prog 33 #[.iface T p,.func (.func fN) #[] cN,.slice (some ⟨gh,0,none⟩) k k] W (MEnd r W):=by
 subst hk2
 exact answer_is hR hk hno ent ht hc
theorem inr_one {w:World} {g:Nat} (h:Bx w g a n c b m d) (hv:Av w a n c b m d l es o):InR w g [⟨a,n,c,b,m,d⟩] [o]:=⟨rfl,fun j hj hj2=>by
 obtain rfl:j=0:=by simpa using hj
 exact⟨h.c0,h.c1,l,es,hv⟩⟩
theorem inr_two {w:World} {g:Nat} (h:w.heap[g]?=some (.cells #[.slice a n c,.slice b m d,.slice a2 m1 c2,.slice b2 m2 d2] 25 (0,0))) (hv:Av w a n c b m d l es o) (hv2:Av w a2 m1 c2 b2 m2 d2 l2 es2 o2):InR w g [⟨a,n,c,b,m,d⟩,⟨a2,m1,c2,b2,m2,d2⟩] [o,o2]:=⟨rfl,fun j hj hj2=>by
 rcases j with _|_|j
 · exact⟨by rw[cell_of_row _ _ 0 _ _ _ h];rfl,by rw[cell_of_row _ _ 1 _ _ _ h];rfl,l,es,hv⟩
 · exact⟨by rw[cell_of_row _ _ 2 _ _ _ h];rfl,by rw[cell_of_row _ _ 3 _ _ _ h];rfl,l2,es2,hv2⟩
 · simp at hj;omega⟩
theorem each_of (h1:Av W a n c b m d l es o) (KA:∀w,Below W.heap.size W w→Boxed w W.heap.size 54 (.iface T p)→Bx w (W.heap.size+1) a n c b m d→InR w (W.heap.size+3) [⟨a,n,c,b,m,d⟩] [o]→Calls Tryz.prog 33 #[.iface T p,.func (.func 34) #[] #[.pointer (some ⟨W.heap.size+1,0,none⟩),.pointer (some ⟨W.heap.size,0,none⟩)],.slice (some ⟨W.heap.size+3,0,none⟩) 1 1] w (MEnd r w)):
 Calls Tryz.prog 12 #[.iface T p,.agg #[.slice a n c,.slice b m d]] W (MEnd r W):=by
 have hmf:∀(fn:Fn) (first cap:Array Value) (w:World),(Instr.makeFunc fn first cap).run Tryz.prog w=.ok (.func fn first cap) w:=fun _ _ _ _=>rfl
 obtain⟨w4,hw4⟩:∃z,z=(((W.alloc (.cells #[.iface T p] 54)).alloc (.cells #[.slice a n c,.slice b m d] 25)).alloc (.cells #[.slice none 0 0,.slice none 0 0] 25)):=⟨_,rfl⟩
 have hs4:w4.heap.size=W.heap.size+3:=by rw[hw4];simp
 have h:Lv (fun w=>Bx w (W.heap.size+2) none 0 0 none 0 0∧Bx w (W.heap.size+1) a n c b m d∧Boxed w W.heap.size 54 (.iface T p)∧Below W.heap.size W w) w4:=by
  rw[hw4]
  refine⟨⟨?_,?_,((Boxed.new W _ _).alloc _).alloc _,(((Below.refl _ _).alloc (Nat.le_refl _) _).alloc (by simp) _).alloc (by simp;omega) _⟩⟩
  · exact Bx.newG _ _ (by simp) _ _ _ _ _ _
  · exact(Bx.newG (W.alloc (.cells #[.iface T p] 54)) _ (by simp) _ _ _ _ _ _).alloc _
 have hbz:Below w4.heap.size w4 (w4.alloc (.cells #[.slice a n c,.slice b m d] 25)):=(Below.refl _ _).alloc (Nat.le_refl _) _
 have hrow:(w4.alloc (.cells #[.slice a n c,.slice b m d] 25)).heap[W.heap.size+3]?=some (.cells #[.slice a n c,.slice b m d] 25 (0,0)):=by
  have:=heap_alloc_new w4 (.cells #[.slice a n c,.slice b m d] 25)
  rwa [hs4]at this
 have hl4:=go_to h hbz
 have KC:=Lib.hid (KA (w4.alloc (.cells #[.slice a n c,.slice b m d] 25)) hl4.out.2.2.2 hl4.out.2.2.1 hl4.out.2.1 (inr_one hrow (h1.below hl4.out.2.2.2)))
 clear KA h1 hrow hl4
 go_enter Tryz.func12,Tryz.ntmps12
 go_upto_region 1 with fail
 rw[←hw4]
 have HW:=Lib.hid hs4
 clear hw4 hs4
 have x0:=h.out.2.2.1.cell
 have x1:=h.out.2.1.c0
 have x2:=h.out.2.1.c1
 go_wp2_with fail
 rw[HW.out]
 refine KC.out.mono ?_
 rintro e w5 ⟨ar,nr,cr,br,mr,dr,rfl,hv,hq⟩
 replace h:=go_to (go_to h hbz) hq
 have HV:=Lib.hid hv
 clear hv hq KC hbz x0 x1 x2
 have y0:=h.out.1.c0
 have y3:=h.out.1.c1
 have f0:=h.out.1.f 0
 have f1:=h.out.1.f 1
 go_wp2_with fail
 have hR:=h.out.1.set ar nr cr br mr dr
 have r0:=hR.c0
 have r1:=hR.c1
 exact bodyPost_ret (v:=.tuple #[.agg #[.slice ar nr cr,.slice br mr dr],.int .i64 r.2]) (by simp[results,Tryz.results12,go_sem,r0,r1]) rfl (mend_box (r:=r) h.out.1 h.out.2.2.2 (by omega) HV.out.v HV.out.c HV.out.i.rok)
theorem each_is (V:VbIs W0 T p n1 n2 n0 f g u) (hw:Below W0.heap.size W0 W) (h1:Av W a n c b m d l es o) (hn:∀q,o=some q→nI q.1≤4096):Calls Tryz.prog 12 #[.iface T p,.agg #[.slice a n c,.slice b m d]] W (MEnd (eaA f o) W):=by
 refine each_of h1 fun w hb hf hv hR=> ?_
 cases o with
 |none=>exact answer_no2 _ _ hR rfl (by decide) rfl
 |some q=>
  replace hn:=hn q rfl
  exact answer_is2 hR rfl (by decide) rfl (enters_of Tryz.func34 (by kernel_rfl) rfl) (eaA_ok V.v1 h1.i.rok) fun z hz=>ea_is V (hw.trans ((hb.trans (hz.mono hb.size)).mono hw.size)) (hv.below hz hv.lt) (boxed_bel hf hz) ((h1.below hb).below hz).q hn
theorem reduce_of (h1:Av W a n c b m d l es o) (KA:∀w,Below W.heap.size W w→Boxed w W.heap.size 54 (.iface T p)→Bx w (W.heap.size+1) a n c b m d→InR w (W.heap.size+3) [⟨a,n,c,b,m,d⟩] [o]→Calls Tryz.prog 33 #[.iface T p,.func (.func 41) #[] #[.pointer (some ⟨W.heap.size+1,0,none⟩),.pointer (some ⟨W.heap.size,0,none⟩)],.slice (some ⟨W.heap.size+3,0,none⟩) 1 1] w (MEnd r w)):
 Calls Tryz.prog 14 #[.iface T p,.agg #[.slice a n c,.slice b m d]] W (MEnd r W):=by
 have hmf:∀(fn:Fn) (first cap:Array Value) (w:World),(Instr.makeFunc fn first cap).run Tryz.prog w=.ok (.func fn first cap) w:=fun _ _ _ _=>rfl
 obtain⟨w4,hw4⟩:∃z,z=(((W.alloc (.cells #[.iface T p] 54)).alloc (.cells #[.slice a n c,.slice b m d] 25)).alloc (.cells #[.slice none 0 0,.slice none 0 0] 25)):=⟨_,rfl⟩
 have hs4:w4.heap.size=W.heap.size+3:=by rw[hw4];simp
 have h:Lv (fun w=>Bx w (W.heap.size+2) none 0 0 none 0 0∧Bx w (W.heap.size+1) a n c b m d∧Boxed w W.heap.size 54 (.iface T p)∧Below W.heap.size W w) w4:=by
  rw[hw4]
  refine⟨⟨?_,?_,((Boxed.new W _ _).alloc _).alloc _,(((Below.refl _ _).alloc (Nat.le_refl _) _).alloc (by simp) _).alloc (by simp;omega) _⟩⟩
  · exact Bx.newG _ _ (by simp) _ _ _ _ _ _
  · exact(Bx.newG (W.alloc (.cells #[.iface T p] 54)) _ (by simp) _ _ _ _ _ _).alloc _
 have hbz:Below w4.heap.size w4 (w4.alloc (.cells #[.slice a n c,.slice b m d] 25)):=(Below.refl _ _).alloc (Nat.le_refl _) _
 have hrow:(w4.alloc (.cells #[.slice a n c,.slice b m d] 25)).heap[W.heap.size+3]?=some (.cells #[.slice a n c,.slice b m d] 25 (0,0)):=by
  have:=heap_alloc_new w4 (.cells #[.slice a n c,.slice b m d] 25)
  rwa [hs4]at this
 have hl4:=go_to h hbz
 have KC:=Lib.hid (KA (w4.alloc (.cells #[.slice a n c,.slice b m d] 25)) hl4.out.2.2.2 hl4.out.2.2.1 hl4.out.2.1 (inr_one hrow (h1.below hl4.out.2.2.2)))
 clear KA h1 hrow hl4
 go_enter Tryz.func14,Tryz.ntmps14
 go_upto_region 1 with fail
 rw[←hw4]
 have HW:=Lib.hid hs4
 clear hw4 hs4
 have x0:=h.out.2.2.1.cell
 have x1:=h.out.2.1.c0
 have x2:=h.out.2.1.c1
 go_wp2_with fail
 rw[HW.out]
 refine KC.out.mono ?_
 rintro e w5 ⟨ar,nr,cr,br,mr,dr,rfl,hv,hq⟩
 replace h:=go_to (go_to h hbz) hq
 have HV:=Lib.hid hv
 clear hv hq KC hbz x0 x1 x2
 have y0:=h.out.1.c0
 have y3:=h.out.1.c1
 have f0:=h.out.1.f 0
 have f1:=h.out.1.f 1
 go_wp2_with fail
 have hR:=h.out.1.set ar nr cr br mr dr
 have r0:=hR.c0
 have r1:=hR.c1
 exact bodyPost_ret (v:=.tuple #[.agg #[.slice ar nr cr,.slice br mr dr],.int .i64 r.2]) (by simp[results,Tryz.results14,go_sem,r0,r1]) rfl (mend_box (r:=r) h.out.1 h.out.2.2.2 (by omega) HV.out.v HV.out.c HV.out.i.rok)
theorem reduce_is (V:VbIs W0 T p n1 n2 n0 f g u) (hw:Below W0.heap.size W0 W) (h1:Av W a n c b m d l es o):Calls Tryz.prog 14 #[.iface T p,.agg #[.slice a n c,.slice b m d]] W (MEnd (rdA g u o) W):=by
 refine reduce_of h1 fun w hb hf hv hR=> ?_
 cases o with
 |none=>exact answer_no2 _ _ hR rfl (by decide) rfl
 |some q=>
  exact answer_is2 hR rfl (by decide) rfl (enters_of Tryz.func41 (by kernel_rfl) rfl) (rdA_ok V.v2 V.vu h1.i.rok) fun z hz=>re_is V (hw.trans ((hb.trans (hz.mono hb.size)).mono hw.size)) (hv.below hz hv.lt) (boxed_bel hf hz) ((h1.below hb).below hz).q
theorem scan_of (h1:Av W a n c b m d l es o) (KA:∀w,Below W.heap.size W w→Boxed w W.heap.size 54 (.iface T p)→Bx w (W.heap.size+1) a n c b m d→InR w (W.heap.size+3) [⟨a,n,c,b,m,d⟩] [o]→Calls Tryz.prog 33 #[.iface T p,.func (.func 47) #[] #[.pointer (some ⟨W.heap.size+1,0,none⟩),.pointer (some ⟨W.heap.size,0,none⟩)],.slice (some ⟨W.heap.size+3,0,none⟩) 1 1] w (MEnd r w)):
 Calls Tryz.prog 16 #[.iface T p,.agg #[.slice a n c,.slice b m d]] W (MEnd r W):=by
 have hmf:∀(fn:Fn) (first cap:Array Value) (w:World),(Instr.makeFunc fn first cap).run Tryz.prog w=.ok (.func fn first cap) w:=fun _ _ _ _=>rfl
 obtain⟨w4,hw4⟩:∃z,z=(((W.alloc (.cells #[.iface T p] 54)).alloc (.cells #[.slice a n c,.slice b m d] 25)).alloc (.cells #[.slice none 0 0,.slice none 0 0] 25)):=⟨_,rfl⟩
 have hs4:w4.heap.size=W.heap.size+3:=by rw[hw4];simp
 have h:Lv (fun w=>Bx w (W.heap.size+2) none 0 0 none 0 0∧Bx w (W.heap.size+1) a n c b m d∧Boxed w W.heap.size 54 (.iface T p)∧Below W.heap.size W w) w4:=by
  rw[hw4]
  refine⟨⟨?_,?_,((Boxed.new W _ _).alloc _).alloc _,(((Below.refl _ _).alloc (Nat.le_refl _) _).alloc (by simp) _).alloc (by simp;omega) _⟩⟩
  · exact Bx.newG _ _ (by simp) _ _ _ _ _ _
  · exact(Bx.newG (W.alloc (.cells #[.iface T p] 54)) _ (by simp) _ _ _ _ _ _).alloc _
 have hbz:Below w4.heap.size w4 (w4.alloc (.cells #[.slice a n c,.slice b m d] 25)):=(Below.refl _ _).alloc (Nat.le_refl _) _
 have hrow:(w4.alloc (.cells #[.slice a n c,.slice b m d] 25)).heap[W.heap.size+3]?=some (.cells #[.slice a n c,.slice b m d] 25 (0,0)):=by
  have:=heap_alloc_new w4 (.cells #[.slice a n c,.slice b m d] 25)
  rwa [hs4]at this
 have hl4:=go_to h hbz
 have KC:=Lib.hid (KA (w4.alloc (.cells #[.slice a n c,.slice b m d] 25)) hl4.out.2.2.2 hl4.out.2.2.1 hl4.out.2.1 (inr_one hrow (h1.below hl4.out.2.2.2)))
 clear KA h1 hrow hl4
 go_enter Tryz.func16,Tryz.ntmps16
 go_upto_region 1 with fail
 rw[←hw4]
 have HW:=Lib.hid hs4
 clear hw4 hs4
 have x0:=h.out.2.2.1.cell
 have x1:=h.out.2.1.c0
 have x2:=h.out.2.1.c1
 go_wp2_with fail
 rw[HW.out]
 refine KC.out.mono ?_
 rintro e w5 ⟨ar,nr,cr,br,mr,dr,rfl,hv,hq⟩
 replace h:=go_to (go_to h hbz) hq
 have HV:=Lib.hid hv
 clear hv hq KC hbz x0 x1 x2
 have y0:=h.out.1.c0
 have y3:=h.out.1.c1
 have f0:=h.out.1.f 0
 have f1:=h.out.1.f 1
 go_wp2_with fail
 have hR:=h.out.1.set ar nr cr br mr dr
 have r0:=hR.c0
 have r1:=hR.c1
 exact bodyPost_ret (v:=.tuple #[.agg #[.slice ar nr cr,.slice br mr dr],.int .i64 r.2]) (by simp[results,Tryz.results16,go_sem,r0,r1]) rfl (mend_box (r:=r) h.out.1 h.out.2.2.2 (by omega) HV.out.v HV.out.c HV.out.i.rok)
theorem scan_is (V:VbIs W0 T p n1 n2 n0 f g u) (hw:Below W0.heap.size W0 W) (h1:Av W a n c b m d l es o) (hn:∀q,o=some q→nI q.1≤4096):Calls Tryz.prog 16 #[.iface T p,.agg #[.slice a n c,.slice b m d]] W (MEnd (scA g o) W):=by
 refine scan_of h1 fun w hb hf hv hR=> ?_
 cases o with
 |none=>exact answer_no2 _ _ hR rfl (by decide) rfl
 |some q=>
  replace hn:=hn q rfl
  exact answer_is2 hR rfl (by decide) rfl (enters_of Tryz.func47 (by kernel_rfl) rfl) (scA_ok V.v2 h1.i.rok) fun z hz=>sc_is V (hw.trans ((hb.trans (hz.mono hb.size)).mono hw.size)) (hv.below hz hv.lt) (boxed_bel hf hz) ((h1.below hb).below hz).q hn
theorem prior_of (h1:Av W a n c b m d l es o) (KA:∀w,Below W.heap.size W w→Boxed w W.heap.size 54 (.iface T p)→Bx w (W.heap.size+1) a n c b m d→InR w (W.heap.size+3) [⟨a,n,c,b,m,d⟩] [o]→Calls Tryz.prog 33 #[.iface T p,.func (.func 48) #[] #[.pointer (some ⟨W.heap.size+1,0,none⟩),.pointer (some ⟨W.heap.size,0,none⟩)],.slice (some ⟨W.heap.size+3,0,none⟩) 1 1] w (MEnd r w)):
 Calls Tryz.prog 18 #[.iface T p,.agg #[.slice a n c,.slice b m d]] W (MEnd r W):=by
 have hmf:∀(fn:Fn) (first cap:Array Value) (w:World),(Instr.makeFunc fn first cap).run Tryz.prog w=.ok (.func fn first cap) w:=fun _ _ _ _=>rfl
 obtain⟨w4,hw4⟩:∃z,z=(((W.alloc (.cells #[.iface T p] 54)).alloc (.cells #[.slice a n c,.slice b m d] 25)).alloc (.cells #[.slice none 0 0,.slice none 0 0] 25)):=⟨_,rfl⟩
 have hs4:w4.heap.size=W.heap.size+3:=by rw[hw4];simp
 have h:Lv (fun w=>Bx w (W.heap.size+2) none 0 0 none 0 0∧Bx w (W.heap.size+1) a n c b m d∧Boxed w W.heap.size 54 (.iface T p)∧Below W.heap.size W w) w4:=by
  rw[hw4]
  refine⟨⟨?_,?_,((Boxed.new W _ _).alloc _).alloc _,(((Below.refl _ _).alloc (Nat.le_refl _) _).alloc (by simp) _).alloc (by simp;omega) _⟩⟩
  · exact Bx.newG _ _ (by simp) _ _ _ _ _ _
  · exact(Bx.newG (W.alloc (.cells #[.iface T p] 54)) _ (by simp) _ _ _ _ _ _).alloc _
 have hbz:Below w4.heap.size w4 (w4.alloc (.cells #[.slice a n c,.slice b m d] 25)):=(Below.refl _ _).alloc (Nat.le_refl _) _
 have hrow:(w4.alloc (.cells #[.slice a n c,.slice b m d] 25)).heap[W.heap.size+3]?=some (.cells #[.slice a n c,.slice b m d] 25 (0,0)):=by
  have:=heap_alloc_new w4 (.cells #[.slice a n c,.slice b m d] 25)
  rwa [hs4]at this
 have hl4:=go_to h hbz
 have KC:=Lib.hid (KA (w4.alloc (.cells #[.slice a n c,.slice b m d] 25)) hl4.out.2.2.2 hl4.out.2.2.1 hl4.out.2.1 (inr_one hrow (h1.below hl4.out.2.2.2)))
 clear KA h1 hrow hl4
 go_enter Tryz.func18,Tryz.ntmps18
 go_upto_region 1 with fail
 rw[←hw4]
 have HW:=Lib.hid hs4
 clear hw4 hs4
 have x0:=h.out.2.2.1.cell
 have x1:=h.out.2.1.c0
 have x2:=h.out.2.1.c1
 go_wp2_with fail
 rw[HW.out]
 refine KC.out.mono ?_
 rintro e w5 ⟨ar,nr,cr,br,mr,dr,rfl,hv,hq⟩
 replace h:=go_to (go_to h hbz) hq
 have HV:=Lib.hid hv
 clear hv hq KC hbz x0 x1 x2
 have y0:=h.out.1.c0
 have y3:=h.out.1.c1
 have f0:=h.out.1.f 0
 have f1:=h.out.1.f 1
 go_wp2_with fail
 have hR:=h.out.1.set ar nr cr br mr dr
 have r0:=hR.c0
 have r1:=hR.c1
 exact bodyPost_ret (v:=.tuple #[.agg #[.slice ar nr cr,.slice br mr dr],.int .i64 r.2]) (by simp[results,Tryz.results18,go_sem,r0,r1]) rfl (mend_box (r:=r) h.out.1 h.out.2.2.2 (by omega) HV.out.v HV.out.c HV.out.i.rok)
theorem prior_is (V:VbIs W0 T p n1 n2 n0 f g u) (hw:Below W0.heap.size W0 W) (h1:Av W a n c b m d l es o) (hn:∀q,o=some q→nI q.1≤4096):Calls Tryz.prog 18 #[.iface T p,.agg #[.slice a n c,.slice b m d]] W (MEnd (prA g o) W):=by
 refine prior_of h1 fun w hb hf hv hR=> ?_
 cases o with
 |none=>exact answer_no2 _ _ hR rfl (by decide) rfl
 |some q=>
  replace hn:=hn q rfl
  exact answer_is2 hR rfl (by decide) rfl (enters_of Tryz.func48 (by kernel_rfl) rfl) (prA_ok V.v2 h1.i.rok) fun z hz=>pr_is V (hw.trans ((hb.trans (hz.mono hb.size)).mono hw.size)) (hv.below hz hv.lt) (boxed_bel hf hz) ((h1.below hb).below hz).q hn
theorem both_of (h1:Av W a n c b m d l es o) (h2:Av W a2 m1 c2 b2 m2 d2 l2 es2 o2) (KA:∀w,Below W.heap.size W w→Boxed w W.heap.size 54 (.iface T p)→Bx w (W.heap.size+1) a n c b m d→Bx w (W.heap.size+2) a2 m1 c2 b2 m2 d2→InR w (W.heap.size+4) [⟨a,n,c,b,m,d⟩,⟨a2,m1,c2,b2,m2,d2⟩] [o,o2]→Calls Tryz.prog 33 #[.iface T p,.func (.func 57) #[] #[.pointer (some ⟨W.heap.size+1,0,none⟩),.pointer (some ⟨W.heap.size,0,none⟩),.pointer (some ⟨W.heap.size+2,0,none⟩)],.slice (some ⟨W.heap.size+4,0,none⟩) 2 2] w (MEnd r w)):
 Calls Tryz.prog 24 #[.iface T p,.agg #[.slice a n c,.slice b m d],.agg #[.slice a2 m1 c2,.slice b2 m2 d2]] W (MEnd r W):=by
 have hmf:∀(fn:Fn) (first cap:Array Value) (w:World),(Instr.makeFunc fn first cap).run Tryz.prog w=.ok (.func fn first cap) w:=fun _ _ _ _=>rfl
 obtain⟨w4,hw4⟩:∃z,z=((((W.alloc (.cells #[.iface T p] 54)).alloc (.cells #[.slice a n c,.slice b m d] 25)).alloc (.cells #[.slice a2 m1 c2,.slice b2 m2 d2] 25)).alloc (.cells #[.slice none 0 0,.slice none 0 0] 25)):=⟨_,rfl⟩
 have hs4:w4.heap.size=W.heap.size+4:=by rw[hw4];simp
 have h:Lv (fun w=>Bx w (W.heap.size+3) none 0 0 none 0 0∧Bx w (W.heap.size+1) a n c b m d∧Boxed w W.heap.size 54 (.iface T p)∧Bx w (W.heap.size+2) a2 m1 c2 b2 m2 d2∧Below W.heap.size W w) w4:=by
  rw[hw4]
  refine⟨⟨?_,?_,(((Boxed.new W _ _).alloc _).alloc _).alloc _,?_,((((Below.refl _ _).alloc (Nat.le_refl _) _).alloc (by simp) _).alloc (by simp;omega) _).alloc (by simp;omega) _⟩⟩
  · exact Bx.newG _ _ (by simp) _ _ _ _ _ _
  · exact((Bx.newG (W.alloc (.cells #[.iface T p] 54)) _ (by simp) _ _ _ _ _ _).alloc _).alloc _
  · exact(Bx.newG ((W.alloc (.cells #[.iface T p] 54)).alloc (.cells #[.slice a n c,.slice b m d] 25)) _ (by simp) _ _ _ _ _ _).alloc _
 have hbz:Below w4.heap.size w4 (w4.alloc (.cells #[.slice a n c,.slice b m d,.slice a2 m1 c2,.slice b2 m2 d2] 25)):=(Below.refl _ _).alloc (Nat.le_refl _) _
 have hrow:(w4.alloc (.cells #[.slice a n c,.slice b m d,.slice a2 m1 c2,.slice b2 m2 d2] 25)).heap[W.heap.size+4]?=some (.cells #[.slice a n c,.slice b m d,.slice a2 m1 c2,.slice b2 m2 d2] 25 (0,0)):=by
  have:=heap_alloc_new w4 (.cells #[.slice a n c,.slice b m d,.slice a2 m1 c2,.slice b2 m2 d2] 25)
  rwa [hs4]at this
 have hl4:=go_to h hbz
 have KC:=Lib.hid (KA (w4.alloc (.cells #[.slice a n c,.slice b m d,.slice a2 m1 c2,.slice b2 m2 d2] 25)) hl4.out.2.2.2.2 hl4.out.2.2.1 hl4.out.2.1 hl4.out.2.2.2.1 (inr_two hrow (h1.below hl4.out.2.2.2.2) (h2.below hl4.out.2.2.2.2)))
 clear KA h1 h2 hrow hl4
 go_enter Tryz.func24,Tryz.ntmps24
 go_upto_region 1 with fail
 rw[←hw4]
 have HW:=Lib.hid hs4
 clear hw4 hs4
 have x0:=h.out.2.2.1.cell
 have x1:=h.out.2.1.c0
 have x2:=h.out.2.1.c1
 have x3:=h.out.2.2.2.1.c0
 have x4:=h.out.2.2.2.1.c1
 go_wp2_with fail
 rw[HW.out]
 refine KC.out.mono ?_
 rintro e w5 ⟨ar,nr,cr,br,mr,dr,rfl,hv,hq⟩
 replace h:=go_to (go_to h hbz) hq
 have HV:=Lib.hid hv
 clear hv hq KC hbz x0 x1 x2 x3 x4
 have y0:=h.out.1.c0
 have y3:=h.out.1.c1
 have f0:=h.out.1.f 0
 have f1:=h.out.1.f 1
 go_wp2_with fail
 have hR:=h.out.1.set ar nr cr br mr dr
 have r0:=hR.c0
 have r1:=hR.c1
 exact bodyPost_ret (v:=.tuple #[.agg #[.slice ar nr cr,.slice br mr dr],.int .i64 r.2]) (by simp[results,Tryz.results24,go_sem,r0,r1]) rfl (mend_box (r:=r) h.out.1 h.out.2.2.2.2 (by omega) HV.out.v HV.out.c HV.out.i.rok)
theorem both_is (V:VbIs W0 T p n1 n2 n0 f g u) (hw:Below W0.heap.size W0 W) (h1:Av W a n c b m d l es o) (h2:Av W a2 m1 c2 b2 m2 d2 l2 es2 o2) (hn:∀q,o=some q→nI q.1≤4096) (hn2:∀q,o2=some q→nI q.1≤4096):Calls Tryz.prog 24 #[.iface T p,.agg #[.slice a n c,.slice b m d],.agg #[.slice a2 m1 c2,.slice b2 m2 d2]] W (MEnd (boA g o o2) W):=by
 refine both_of h1 h2 fun w hb hf hv hw2 hR=> ?_
 cases o with
 |none=>rw[show boA g none o2=(none,1)by cases o2<;>rfl];exact answer_no2 _ _ hR rfl (by decide) rfl
 |some q=>
  cases o2 with
  |none=>exact answer_no2 _ _ hR rfl (by decide) rfl
  |some q2=>
   replace hn:=hn q rfl
   replace hn2:=hn2 q2 rfl
   exact answer_is2 hR rfl (by decide) rfl (enters_of Tryz.func57 (by kernel_rfl) rfl) (boA_ok V.v2 h1.i.rok h2.i.rok) fun z hz=>bo_is V (hw.trans ((hb.trans (hz.mono hb.size)).mono hw.size)) (hv.below hz hv.lt) (boxed_bel hf hz) (hw2.below hz hw2.lt) ((h1.below hb).below hz).q ((h2.below hb).below hz).q hn hn2
end
end Go.Proofs.YtbijncndjlmmdaaGreatDoor

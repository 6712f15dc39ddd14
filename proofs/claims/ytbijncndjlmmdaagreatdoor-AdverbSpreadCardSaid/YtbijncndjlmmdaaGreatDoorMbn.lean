import Derived.Test.YtbijncndjlmmdaaGreatDoorMbm
set_option maxHeartbeats 6400000
set_option maxRecDepth 100000
namespace Go.Proofs.YtbijncndjlmmdaaGreatDoor
set_option linter.unusedVariables false
set_option linter.unusedSimpArgs false
open Go.RowKit
section
variable {W W0 w:World} {a b a2 b2:Option Addr} {n c m d m1 c2 m2 d2:Nat} {x y q:Ar} {T:TypeId} {p:Value} {n1 n2 n0:FuncId} {f:Ar→Option Ar×Int} {g:Ar→Ar→Option Ar×Int} {u:Option Ar}
def prR (g:Ar→Ar→Option Ar×Int) (q:Ar) (i:Nat):Option Ar×Int:=if i=0 then(some (itA q.1 q.2 i),0)else g (itA q.1 q.2 i) (itA q.1 q.2 (i-1))
theorem zip_ahead {α:Type} (h:Nat→α) (k:Nat):((List.range k).map fun j=>h (j+1)).zip (h 0::(List.range k).map fun j=>h (j+1))=(List.range k).map fun j=>(h (j+1),h j):=by
 refine List.ext_getElem (by simp) fun j h1 h2=> ?_
 rw[List.getElem_zip]
 simp only[List.getElem_map,List.getElem_range]
 cases j with
 |zero=>rfl
 |succ j=>simp
theorem jn_prior (hl:q.1≠[]):prA g (some q)=jnR q (prR g q):=by
 unfold prA jnR
 simp only
 by_cases hn:nI q.1=0
 · rw[if_pos (.inr hn),if_pos hn]
 · rw[if_neg (fun h=>h.elim hl hn),if_neg hn]
   obtain⟨k,hn1⟩:∃k,nI q.1=k+1:=⟨nI q.1-1,by omega⟩
   rw[iT_tl hn1,hn1,List.range_succ_eq_map,runL_cons (show prR g q 0=(some (itA q.1 q.2 0),0)from rfl),runL_map]
   unfold prL
   rw[zip_ahead (fun j=>itA q.1 q.2 j) k,runL_map,show(fun x:Nat=>prR g q x.succ)=(fun x:Nat=>g (itA q.1 q.2 (x+1)) (itA q.1 q.2 x))from funext fun x=>if_neg (Nat.succ_ne_zero x)]
   generalize runL (fun x:Nat=>g (itA q.1 q.2 (x+1)) (itA q.1 q.2 x)) (List.range k)=z
   obtain⟨o,e⟩:=z
   cases o<;>rfl
theorem prR_ok (hg:Vb2 g) (hq:Rok (some q)) (i:Nat) (hi:i<nI q.1):Told (prR g q i)∧Rok (prR g q i).1:=by
 unfold prR
 split
 · exact⟨.yes _,it_rok hq hi⟩
 · exact hg _ _ (it_rok hq hi) (it_rok hq (by omega))
structure FoB (W0:World) (T:TypeId) (p:Value) (g:Ar→Ar→Option Ar×Int) (q:Ar) (B gn gf:Nat) (w:World):Prop where
 st:FoI W0 T p gn gf g q 0 w
 ln:gn<w.heap.size
 lf:gf<w.heap.size
 ne:gf≠gn
 bn:B≤gn
 b0:W0.heap.size≤B
theorem FoB.drew {B gn gf:Nat} (h:FoB W0 T p g q B gn gf w):FoB W0 T p g q B gn gf w.drew:=by
 obtain⟨a,n,c,b,m,d,h1,_⟩:=h.st.nb
 exact⟨⟨⟨a,n,c,b,m,d,h1,fun j e=>(by omega)⟩,h.st.fb,Below.drew h.st.w0⟩,h.ln,h.lf,h.ne,h.bn,h.b0⟩
theorem FoB.make (hw:Below W0.heap.size W0 W) (hb:Below W.heap.size W w):FoB W0 T p g q W.heap.size (w.heap.size+1) w.heap.size ((w.alloc (.cells #[.iface T p] 54)).alloc (.cells #[.slice none 0 0,.slice none 0 0] 25))∧Below W.heap.size W ((w.alloc (.cells #[.iface T p] 54)).alloc (.cells #[.slice none 0 0,.slice none 0 0] 25)):=by
 have h2:Below W.heap.size W ((w.alloc (.cells #[.iface T p] 54)).alloc (.cells #[.slice none 0 0,.slice none 0 0] 25)):=(hb.alloc hb.size _).alloc (by have:=hb.size;simp;omega) _
 have hs:=hb.size
 refine⟨⟨⟨⟨none,0,0,none,0,0,?_,fun j e=>(by omega)⟩,(Boxed.new w _ _).alloc _,hw.trans (h2.mono hw.size)⟩,by simp,by simp;omega,by omega,by omega,hw.size⟩,h2⟩
 have:=Bx.new (w.alloc (.cells #[.iface T p] 54)) none 0 0 none 0 0
 rwa [World.size_alloc]at this
theorem joined_fold (V:VbIs W0 T p n1 n2 n0 f g u) {B gn gf:Nat} (hB:FoB W0 T p g x B gn gf W) (h1:AvQ W a n c b m d x) (hl:x.1≠[]) (hn:nI x.1≤4096):
 Calls Tryz.prog 35 #[.agg #[.slice a n c,.slice b m d],.func (.func 89) #[] #[.pointer (some ⟨gn,0,none⟩),.pointer (some ⟨gf,0,none⟩)]] W (VE (scA g (some x)) fun w'=>W.grownBy w' (some gn)):=by
 rw[jn_scan V.v2 h1.rok hl]
 by_cases h0:nI x.1=0
 · have H:JnH W 89 #[.pointer (some ⟨gn,0,none⟩),.pointer (some ⟨gf,0,none⟩)] (some gn) (FoI W0 T p gn gf g x) (frA g x) x:=⟨fun i w a n c b m d hi _ _=>(by omega),enters_of Tryz.func89 (by kernel_rfl) rfl,fun t e=>(by injection e with e;subst e;exact hB.ln),fun i w h t e=>(by injection e with e;subst e;exact h.soft),
    fun i w w' h ho=>h.own ho hB.ln hB.lf (by have:=hB.b0;have:=hB.bn;have:=hB.ln;omega),fun i hi=>(by omega),hB.st⟩
   exact joined_is W h1 hl hn H
 · have H:JnH W 89 #[.pointer (some ⟨gn,0,none⟩),.pointer (some ⟨gf,0,none⟩)] (some gn) (FoI W0 T p gn gf g x) (frA g x) x:=⟨fun i w a n c b m d hi hI hv=>fo1_is V (Nat.le_trans hB.b0 hB.bn) hB.ne hI hv (frA_ok V.v2 h1.rok (by omega) i hi).1,enters_of Tryz.func89 (by kernel_rfl) rfl,fun t e=>(by injection e with e;subst e;exact hB.ln),fun i w h t e=>(by injection e with e;subst e;exact h.soft),
    fun i w w' h ho=>h.own ho hB.ln hB.lf (by have:=hB.b0;have:=hB.bn;have:=hB.ln;omega),fun i hi=>frA_ok V.v2 h1.rok (by omega) i hi,hB.st⟩
   exact joined_is W h1 hl hn H
theorem pr_is (V:VbIs W0 T p n1 n2 n0 f g u) {gv gf:Nat} (hw:Below W0.heap.size W0 W) (hgv:Bx W gv a n c b m d) (hgf:Boxed W gf 54 (.iface T p)) (h1:AvQ W a n c b m d x) (hn:nI x.1≤4096):
 Calls Tryz.prog 48 #[.pointer (some ⟨gv,0,none⟩),.pointer (some ⟨gf,0,none⟩)] W (VE (prA g (some x)) (fun w'=>Below W.heap.size W w')):=by
 have hmf:∀(fn:Fn) (first cap:Array Value) (w:World),(Instr.makeFunc fn first cap).run Tryz.prog w=.ok (.func fn first cap) w:=fun _ _ _ _=>rfl
 have h:Lv (fun w=>Bx w W.heap.size none 0 0 none 0 0∧Bx w gv a n c b m d∧Boxed w gf 54 (.iface T p)∧Below W.heap.size W w) (W.alloc (.cells #[.slice none 0 0,.slice none 0 0] 25)):=⟨⟨Bx.new _ _ _ _ _ _ _,hgv.alloc _,hgf.alloc _,(Below.refl _ _).alloc (Nat.le_refl _) _⟩⟩
 by_cases hl:x.1=[]
 · have e0:n=0:=by rw[←h1.len,hl];rfl
   rw[show prA g (some x)=(some x,0)from if_pos (.inl hl)]
   subst e0
   have HX:=Lib.hid h1.v
   clear V hw h1 hgv hgf hn hl
   go_enter Tryz.func48,Tryz.ntmps48
   have x1:=h.out.2.1.c0
   have x2:=h.out.2.1.c1
   have HH:=Lib.hid h
   clear h
   go_wp2_with fail
   have hR:=Bx.new W a 0 c b m d
   have r0:=hR.c0
   have r1:=hR.c1
   have hb2:Below W.heap.size W (W.alloc (.cells #[.slice a 0 c,.slice b m d] 25)):=(Below.refl _ _).alloc (Nat.le_refl _) _
   exact bodyPost_ret (v:=.tuple #[.agg #[.slice a 0 c,.slice b m d],.int .i64 0]) (by simp[results,Tryz.results48,go_sem,r0,r1]) rfl ⟨_,_,_,_,_,_,rfl,fun q e=>(by injection e with e;subst e;exact HX.out.below hb2),hb2⟩
 · have KC:Hid (∀w,Below W.heap.size W w→Boxed w gf 54 (.iface T p)→Bx w gv a n c b m d→Calls Tryz.prog 35 #[.agg #[.slice a n c,.slice b m d],.func (.func 49) #[] #[.pointer (some ⟨gf,0,none⟩),.pointer (some ⟨gv,0,none⟩)]] w (VE (jnR x (prR g x)) fun w'=>Below w.heap.size w w')):=Lib.hid fun w hb hf hv=>joined_plain w (h1.below hb) hl hn (fun i z a n c b m d hi hz hav=>(pr1_is V ((hw.trans (hb.mono hw.size)).trans (hz.mono (Nat.le_trans hw.size hb.size))) (boxed_bel hf hz) (hv.below hz hv.lt) hav ((h1.below hb).below hz) hl hi)) (enters_of Tryz.func49 (by kernel_rfl) rfl) (prR_ok V.v2 h1.rok)
   have e0:((n:Int)==0)=false:=beq_eq_false_iff_ne.2 (by have:=h1.len;intro e;exact hl (List.length_eq_zero_iff.1 (by omega)))
   rw[jn_prior hl]
   generalize (jnR x (prR g x))=r at*
   clear V hw h1 hgv hgf hn hl
   go_enter Tryz.func48,Tryz.ntmps48
   have x1:=h.out.2.1.c0
   have x1b:=h.out.2.1.c1
   have z1:=h.out.2.2.1.cell
   go_wp2_with fail
   refine(KC.out _ h.out.2.2.2 h.out.2.2.1 h.out.2.1).mono ?_
   rintro e w2 ⟨ar,nr,cr,br,mr,dr,rfl,hv,hq⟩
   replace h:=go_to h hq
   have HV:=Lib.hid hv
   clear hv hq x1 x1b z1
   have y0:=h.out.1.c0
   have y3:=h.out.1.c1
   have f0:=h.out.1.f 0
   have f1:=h.out.1.f 1
   go_wp2_with fail
   have hR:=h.out.1.set ar nr cr br mr dr
   have r0:=hR.c0
   have r1:=hR.c1
   exact bodyPost_ret (v:=.tuple #[.agg #[.slice ar nr cr,.slice br mr dr],.int .i64 r.2]) (by simp[results,Tryz.results48,go_sem,r0,r1]) rfl (ve_box (r:=r) h.out.1 h.out.2.2.2 (by omega) HV.out)
theorem sc_is (V:VbIs W0 T p n1 n2 n0 f g u) {gv gf:Nat} (hw:Below W0.heap.size W0 W) (hgv:Bx W gv a n c b m d) (hgf:Boxed W gf 54 (.iface T p)) (h1:AvQ W a n c b m d x) (hn:nI x.1≤4096):
 Calls Tryz.prog 47 #[.pointer (some ⟨gv,0,none⟩),.pointer (some ⟨gf,0,none⟩)] W (VE (scA g (some x)) (fun w'=>Below W.heap.size W w')):=by
 have hmf:∀(fn:Fn) (first cap:Array Value) (w:World),(Instr.makeFunc fn first cap).run Tryz.prog w=.ok (.func fn first cap) w:=fun _ _ _ _=>rfl
 have h:Lv (fun w=>Bx w W.heap.size none 0 0 none 0 0∧Bx w gv a n c b m d∧Boxed w gf 54 (.iface T p)∧Below W.heap.size W w) (W.alloc (.cells #[.slice none 0 0,.slice none 0 0] 25)):=⟨⟨Bx.new _ _ _ _ _ _ _,hgv.alloc _,hgf.alloc _,(Below.refl _ _).alloc (Nat.le_refl _) _⟩⟩
 by_cases hl:x.1=[]
 · have e0:n=0:=by rw[←h1.len,hl];rfl
   rw[show scA g (some x)=(some x,0)from if_pos (.inl hl)]
   subst e0
   have HX:=Lib.hid h1.v
   clear V hw h1 hgv hgf hn hl
   go_enter Tryz.func47,Tryz.ntmps47
   have x1:=h.out.2.1.c0
   have x2:=h.out.2.1.c1
   have HH:=Lib.hid h
   clear h
   go_wp2_with fail
   have hR:=Bx.new W a 0 c b m d
   have r0:=hR.c0
   have r1:=hR.c1
   have hb2:Below W.heap.size W (W.alloc (.cells #[.slice a 0 c,.slice b m d] 25)):=(Below.refl _ _).alloc (Nat.le_refl _) _
   exact bodyPost_ret (v:=.tuple #[.agg #[.slice a 0 c,.slice b m d],.int .i64 0]) (by simp[results,Tryz.results47,go_sem,r0,r1]) rfl ⟨_,_,_,_,_,_,rfl,fun q e=>(by injection e with e;subst e;exact HX.out.below hb2),hb2⟩
 · have KC:Hid (∀B z gn gf,Below W.heap.size W z→FoB W0 T p g x B gn gf z→Calls Tryz.prog 35 #[.agg #[.slice a n c,.slice b m d],.func (.func 89) #[] #[.pointer (some ⟨gn,0,none⟩),.pointer (some ⟨gf,0,none⟩)]] z (VE (scA g (some x)) fun w'=>z.grownBy w' (some gn))):=Lib.hid fun B z gn gf hz hB=>joined_fold V hB (h1.below hz) hl hn
   have e0:((n:Int)==0)=false:=beq_eq_false_iff_ne.2 (by have:=h1.len;intro e;exact hl (List.length_eq_zero_iff.1 (by omega)))
   have HW:=Lib.hid hw
   have LT:=Lib.hid (And.intro hgv.lt hgf.lt)
   generalize scA g (some x)=r at*
   clear V hw h1 hgv hgf hn hl
   go_enter Tryz.func47,Tryz.ntmps47
   have x1:=h.out.2.1.c0
   go_upto_region 3 with fail
   obtain⟨wS,hwS⟩:∃z,z=W.alloc (.cells #[.slice none 0 0,.slice none 0 0] 25):=⟨_,rfl⟩
   rw[←hwS]at h ⊢
   clear hwS x1
   have hq:Below wS.heap.size wS wS:=Below.refl _ _
   have hbS:=h.out.2.2.2
   have hwS0:=HW.out.trans (hbS.mono HW.out.size)
   have HK:Hid (∀z,Below wS.heap.size wS z→z.cell? ⟨gf,0,none⟩=some (.iface T p)∧z.cell? ⟨gv,0,none⟩=some (.slice a n c)∧z.cell? ⟨gv,1,none⟩=some (.slice b m d)):=Lib.hid fun z hz=>⟨(boxed_bel h.out.2.2.1 hz).cell,(h.out.2.1.below hz h.out.2.1.lt).c0,(h.out.2.1.below hz h.out.2.1.lt).c1⟩
   have HK2:Hid (∀z u v,Below wS.heap.size wS z→((z.setCell ⟨W.heap.size,0,none⟩ u).setCell ⟨W.heap.size,1,none⟩ v).cell? ⟨gf,0,none⟩=some (.iface T p)∧((z.setCell ⟨W.heap.size,0,none⟩ u).setCell ⟨W.heap.size,1,none⟩ v).cell? ⟨gv,0,none⟩=some (.slice a n c)∧((z.setCell ⟨W.heap.size,0,none⟩ u).setCell ⟨W.heap.size,1,none⟩ v).cell? ⟨gv,1,none⟩=some (.slice b m d)):=Lib.hid fun z u v hz=>by
    have hh:=C3.set (C3.of (boxed_bel h.out.2.2.1 hz) (h.out.2.1.below hz h.out.2.1.lt) (h.out.2.1.below hz h.out.2.1.lt)) (g:=W.heap.size) (by have:=LT.out;omega) (by have:=LT.out;omega) (by have:=LT.out;omega) u v
    exact⟨hh.1,hh.2.1,hh.2.2.1⟩
   have KF:Hid (∀z,Below wS.heap.size wS z→Calls Tryz.prog 43 #[.iface T p] z (fun e w'=>∃gn gf,e=.returned (.func (.func 89) #[] #[.pointer (some ⟨gn,0,none⟩),.pointer (some ⟨gf,0,none⟩)])∧FoB W0 T p g x wS.heap.size gn gf w'∧Below wS.heap.size wS w')):=Lib.hid fun z hz=>(fold_is T p z).mono fun e w' ⟨h1,h2⟩=>by
    obtain⟨k1,k2⟩:=FoB.make (T:=T) (p:=p) (g:=g) (q:=x) hwS0 hz
    exact⟨_,_,h1,by rw[h2];exact k1,by rw[h2];exact k2⟩
   have KT:Hid (∀z gn gf,Below wS.heap.size wS z→FoB W0 T p g x wS.heap.size gn gf z→Calls Tryz.prog 35 #[.agg #[.slice a n c,.slice b m d],.func (.func 89) #[] #[.pointer (some ⟨gn,0,none⟩),.pointer (some ⟨gf,0,none⟩)]] z (fun e w'=>∃a n c b m d,e=.returned (.tuple #[.agg #[.slice a n c,.slice b m d],.int .i64 r.2])∧(∀q,r.1=some q→Vl w' a n b m q.1 (q.2.map S))∧Below wS.heap.size wS w')):=Lib.hid fun z gn gf hz hB=>(KC.out _ z gn gf (hbS.trans (hz.mono hbS.size)) hB).mono fun e w' ⟨a,n,c,b,m,d,h1,h2,h3⟩=>⟨a,n,c,b,m,d,h1,h2,hz.grown h3 hz.size (fun k e=>by injection e with e;subst e;exact hB.bn)⟩
   go_region_held3 (fun w'=>w'.cell? ⟨gf,0,none⟩=some (.iface T p)∧w'.cell? ⟨gv,0,none⟩=some (.slice a n c)∧w'.cell? ⟨gv,1,none⟩=some (.slice b m d))
    (first|exact HK.out _ hq|exact HK.out _ (Below.drew hq)|exact HK2.out _ _ _ hq|fail)
    (first
      |(go_at_call 43;(with_reducible refine(KF.out _ (by first|exact hq|exact Below.drew hq)).mono ?_);rintro e w6 ⟨gn,gf2,rfl,hfb,hq6⟩;have hq:=hq6)
      |(go_at_call 35;(with_reducible refine(KT.out _ gn gf2 (by first|exact hq|exact Below.drew hq) (by first|exact hfb|exact FoB.drew hfb)).mono ?_);rintro e w7 ⟨ar,nr,cr,br,mr,dr,rfl,hv,hq7⟩;have hq:=hq7;have hBR:=h.out.1.below hq h.out.1.lt;have y0:=hBR.c0;have y1:=hBR.c1;have f0:=hBR.f 0;have f1:=hBR.f 1)
      |fail)
   all_goals
    go_wp2_with fail
    have hR:=hBR.set ar nr cr br mr dr
    have r0:=hR.c0
    have r1:=hR.c1
    exact bodyPost_ret (v:=.tuple #[.agg #[.slice ar nr cr,.slice br mr dr],.int .i64 r.2]) (by simp[results,Tryz.results47,go_sem,r0,r1]) rfl (ve_box (r:=r) hBR (hbS.trans (hq7.mono hbS.size)) (Nat.le_refl _) hv)
theorem bo_left (V:VbIs W0 T p n1 n2 n0 f g u) {gv gf gw:Nat} (hw:Below W0.heap.size W0 W) (hgv:Bx W gv a n c b m d) (hgf:Boxed W gf 54 (.iface T p)) (hgw:Bx W gw a2 m1 c2 b2 m2 d2) (h1:AvQ W a n c b m d x) (h2:AvQ W a2 m1 c2 b2 m2 d2 y) (hn:nI x.1≤4096) (hn2:nI y.1≤4096) (hl:x.1=[]):
 Calls Tryz.prog 57 #[.pointer (some ⟨gv,0,none⟩),.pointer (some ⟨gf,0,none⟩),.pointer (some ⟨gw,0,none⟩)] W (VE (boA g (some x) (some y)) (fun w'=>Below W.heap.size W w')):=by
 have hmf:∀(fn:Fn) (first cap:Array Value) (w:World),(Instr.makeFunc fn first cap).run Tryz.prog w=.ok (.func fn first cap) w:=fun _ _ _ _=>rfl
 have h:Lv (fun w=>Bx w W.heap.size none 0 0 none 0 0∧Bx w gv a n c b m d∧Boxed w gf 54 (.iface T p)∧Bx w gw a2 m1 c2 b2 m2 d2∧Below W.heap.size W w) (W.alloc (.cells #[.slice none 0 0,.slice none 0 0] 25)):=⟨⟨Bx.new _ _ _ _ _ _ _,hgv.alloc _,hgf.alloc _,hgw.alloc _,(Below.refl _ _).alloc (Nat.le_refl _) _⟩⟩
 have KC:=Lib.hid (fun w (hb:Below W.heap.size W w)=>wh_is V (hw.trans (hb.mono hw.size)) (h1.below hb) (h2.below hb) hn2)
 have e0:n=0:=by rw[←h1.len,hl];rfl
 rw[jn_right hl]
 subst e0
 generalize alA g y x=r at*
 clear V hw h1 hgv hgf hn h2 hgw hn2 hl
 go_enter Tryz.func57,Tryz.ntmps57
 have x1:=h.out.2.1.c0
 have x1b:=h.out.2.1.c1
 have z1:=h.out.2.2.1.cell
 have y1:=h.out.2.2.2.1.c0
 have y1b:=h.out.2.2.2.1.c1
 go_wp2_with fail
 refine(KC.out _ h.out.2.2.2.2).mono ?_
 rintro e w2 ⟨ar,nr,cr,br,mr,dr,rfl,hv,hq⟩
 replace h:=go_to h hq
 have HV:=Lib.hid hv
 clear hv hq x1 x1b z1 y1 y1b
 have y0:=h.out.1.c0
 have y3:=h.out.1.c1
 have f0:=h.out.1.f 0
 have f1:=h.out.1.f 1
 go_wp2_with fail
 have hR:=h.out.1.set ar nr cr br mr dr
 have r0:=hR.c0
 have r1:=hR.c1
 exact bodyPost_ret (v:=.tuple #[.agg #[.slice ar nr cr,.slice br mr dr],.int .i64 r.2]) (by simp[results,Tryz.results57,go_sem,r0,r1]) rfl (ve_box (r:=r) h.out.1 h.out.2.2.2.2 (by omega) HV.out)
theorem bo_right (V:VbIs W0 T p n1 n2 n0 f g u) {gv gf gw:Nat} (hw:Below W0.heap.size W0 W) (hgv:Bx W gv a n c b m d) (hgf:Boxed W gf 54 (.iface T p)) (hgw:Bx W gw a2 m1 c2 b2 m2 d2) (h1:AvQ W a n c b m d x) (h2:AvQ W a2 m1 c2 b2 m2 d2 y) (hn:nI x.1≤4096) (hn2:nI y.1≤4096) (hl:x.1≠[]) (hy:y.1=[]):
 Calls Tryz.prog 57 #[.pointer (some ⟨gv,0,none⟩),.pointer (some ⟨gf,0,none⟩),.pointer (some ⟨gw,0,none⟩)] W (VE (boA g (some x) (some y)) (fun w'=>Below W.heap.size W w')):=by
 have hmf:∀(fn:Fn) (first cap:Array Value) (w:World),(Instr.makeFunc fn first cap).run Tryz.prog w=.ok (.func fn first cap) w:=fun _ _ _ _=>rfl
 have h:Lv (fun w=>Bx w W.heap.size none 0 0 none 0 0∧Bx w gv a n c b m d∧Boxed w gf 54 (.iface T p)∧Bx w gw a2 m1 c2 b2 m2 d2∧Below W.heap.size W w) (W.alloc (.cells #[.slice none 0 0,.slice none 0 0] 25)):=⟨⟨Bx.new _ _ _ _ _ _ _,hgv.alloc _,hgf.alloc _,hgw.alloc _,(Below.refl _ _).alloc (Nat.le_refl _) _⟩⟩
 have KC:Hid (∀w,Below W.heap.size W w→Boxed w gf 54 (.iface T p)→Bx w gw a2 m1 c2 b2 m2 d2→Calls Tryz.prog 35 #[.agg #[.slice a n c,.slice b m d],.func (.func 59) #[] #[.pointer (some ⟨gf,0,none⟩),.pointer (some ⟨gw,0,none⟩)]] w (VE (jnR x fun i=>g (itA x.1 x.2 i) y) fun w'=>Below w.heap.size w w')):=Lib.hid fun w hb hf hv=>joined_plain w (h1.below hb) hl hn (fun i z a n c b m d hi hz hav=>bo1_is V ((hw.trans (hb.mono hw.size)).trans (hz.mono (Nat.le_trans hw.size hb.size))) (boxed_bel hf hz) (hv.below hz hv.lt) hav ((h2.below hb).below hz) _) (enters_of Tryz.func59 (by kernel_rfl) rfl) (fun i hi=>V.v2 _ _ (it_rok h1.rok hi) h2.rok)
 have e0:((n:Int)==0)=false:=beq_eq_false_iff_ne.2 (by have:=h1.len;intro e;exact hl (List.length_eq_zero_iff.1 (by omega)))
 have e1:m1=0:=by rw[←h2.len,hy];rfl
 rw[jn_left hl hy]
 subst e1
 generalize (jnR x fun i=>g (itA x.1 x.2 i) y)=r at*
 clear V hw h1 hgv hgf hn h2 hgw hn2 hl hy
 go_enter Tryz.func57,Tryz.ntmps57
 have x1:=h.out.2.1.c0
 have x1b:=h.out.2.1.c1
 have z1:=h.out.2.2.1.cell
 have y1:=h.out.2.2.2.1.c0
 have y1b:=h.out.2.2.2.1.c1
 go_wp2_with fail
 refine(KC.out _ h.out.2.2.2.2 h.out.2.2.1 h.out.2.2.2.1).mono ?_
 rintro e w2 ⟨ar,nr,cr,br,mr,dr,rfl,hv,hq⟩
 replace h:=go_to h hq
 have HV:=Lib.hid hv
 clear hv hq x1 x1b z1 y1 y1b
 have y0:=h.out.1.c0
 have y3:=h.out.1.c1
 have f0:=h.out.1.f 0
 have f1:=h.out.1.f 1
 go_wp2_with fail
 have hR:=h.out.1.set ar nr cr br mr dr
 have r0:=hR.c0
 have r1:=hR.c1
 exact bodyPost_ret (v:=.tuple #[.agg #[.slice ar nr cr,.slice br mr dr],.int .i64 r.2]) (by simp[results,Tryz.results57,go_sem,r0,r1]) rfl (ve_box (r:=r) h.out.1 h.out.2.2.2.2 (by omega) HV.out)
theorem bo_two (V:VbIs W0 T p n1 n2 n0 f g u) {gv gf gw:Nat} (hw:Below W0.heap.size W0 W) (hgv:Bx W gv a n c b m d) (hgf:Boxed W gf 54 (.iface T p)) (hgw:Bx W gw a2 m1 c2 b2 m2 d2) (h1:AvQ W a n c b m d x) (h2:AvQ W a2 m1 c2 b2 m2 d2 y) (hn:nI x.1≤4096) (hn2:nI y.1≤4096) (hl:x.1≠[]) (hy:y.1≠[]):
 Calls Tryz.prog 57 #[.pointer (some ⟨gv,0,none⟩),.pointer (some ⟨gf,0,none⟩),.pointer (some ⟨gw,0,none⟩)] W (VE (boA g (some x) (some y)) (fun w'=>Below W.heap.size W w')):=by
 have hmf:∀(fn:Fn) (first cap:Array Value) (w:World),(Instr.makeFunc fn first cap).run Tryz.prog w=.ok (.func fn first cap) w:=fun _ _ _ _=>rfl
 have h:Lv (fun w=>Bx w W.heap.size none 0 0 none 0 0∧Bx w gv a n c b m d∧Boxed w gf 54 (.iface T p)∧Bx w gw a2 m1 c2 b2 m2 d2∧Below W.heap.size W w) (W.alloc (.cells #[.slice none 0 0,.slice none 0 0] 25)):=⟨⟨Bx.new _ _ _ _ _ _ _,hgv.alloc _,hgf.alloc _,hgw.alloc _,(Below.refl _ _).alloc (Nat.le_refl _) _⟩⟩
 have e0:((n:Int)==0)=false:=beq_eq_false_iff_ne.2 (by have:=h1.len;intro e;exact hl (List.length_eq_zero_iff.1 (by omega)))
 have e1:((m1:Int)==0)=false:=beq_eq_false_iff_ne.2 (by have:=h2.len;intro e;exact hy (List.length_eq_zero_iff.1 (by omega)))
 have K1:Hid (∀w,Below W.heap.size W w→Calls Tryz.prog 22 #[.agg #[.slice a n c,.slice b m d]] w (IntEnd (nI x.1:Nat) w)):=Lib.hid fun w hb=>by
  have:=VMany_av (h1.below hb)
  rw[mN_nI hl]at this
  exact this
 have K2:Hid (∀w,Below W.heap.size W w→Calls Tryz.prog 22 #[.agg #[.slice a2 m1 c2,.slice b2 m2 d2]] w (IntEnd (nI y.1:Nat) w)):=Lib.hid fun w hb=>by
  have:=VMany_av (h2.below hb)
  rw[mN_nI hy]at this
  exact this
 rw[jn_pairs hl hy]
 have LT:=Lib.hid (And.intro hgv.lt hgw.lt)
 by_cases he:nI x.1=nI y.1
 · have KC:Hid (∀w,Below W.heap.size W w→Boxed w gf 54 (.iface T p)→Bx w gw a2 m1 c2 b2 m2 d2→Calls Tryz.prog 35 #[.agg #[.slice a n c,.slice b m d],.func (.func 60) #[] #[.pointer (some ⟨gf,0,none⟩),.pointer (some ⟨gw,0,none⟩)]] w (VE (jnR x fun i=>g (itA x.1 x.2 i) (itA y.1 y.2 i)) fun w'=>Below w.heap.size w w')):=Lib.hid fun w hb hf hv=>joined_plain w (h1.below hb) hl hn (fun i z a n c b m d hi hz hav=>bo2_is V ((hw.trans (hb.mono hw.size)).trans (hz.mono (Nat.le_trans hw.size hb.size))) (boxed_bel hf hz) (hv.below hz hv.lt) hav ((h2.below hb).below hz) hy (by rw[←he];exact hi)) (enters_of Tryz.func60 (by kernel_rfl) rfl) (fun i hi=>V.v2 _ _ (it_rok h1.rok hi) (it_rok h2.rok (by rw[←he];exact hi)))
   rw[if_pos he]
   generalize (jnR x fun i=>g (itA x.1 x.2 i) (itA y.1 y.2 i))=r at*
   rw[←he]at K2
   generalize nI x.1=k1 at*
   have hkk:((k1:Int)==(k1:Int))=true:=beq_self_eq_true _
   clear V hw h1 hgv hgf hn h2 hgw hn2 hl hy he
   go_enter Tryz.func57,Tryz.ntmps57
   have x1:=h.out.2.1.c0
   have y1:=h.out.2.2.2.1.c0
   go_upto_region 5 with fail
   obtain⟨wS,hwS⟩:∃z,z=W.alloc (.cells #[.slice none 0 0,.slice none 0 0] 25):=⟨_,rfl⟩
   rw[←hwS]at h ⊢
   clear hwS x1 y1
   have hq:Below wS.heap.size wS wS:=Below.refl _ _
   have hbS:=h.out.2.2.2.2
   have HK:Hid (∀z,Below wS.heap.size wS z→z.cell? ⟨gv,0,none⟩=some (.slice a n c)∧z.cell? ⟨gv,1,none⟩=some (.slice b m d)∧z.cell? ⟨gw,0,none⟩=some (.slice a2 m1 c2)∧z.cell? ⟨gw,1,none⟩=some (.slice b2 m2 d2)):=Lib.hid fun z hz=>⟨(h.out.2.1.below hz h.out.2.1.lt).c0,(h.out.2.1.below hz h.out.2.1.lt).c1,(h.out.2.2.2.1.below hz h.out.2.2.2.1.lt).c0,(h.out.2.2.2.1.below hz h.out.2.2.2.1.lt).c1⟩
   have M1:Hid (∀z,Below wS.heap.size wS z→Calls Tryz.prog 22 #[.agg #[.slice a n c,.slice b m d]] z (fun e w'=>e=.returned (.int .i64 (k1:Int))∧Below wS.heap.size wS w')):=Lib.hid fun z hz=>(K1.out z (hbS.trans (hz.mono hbS.size))).mono fun e w' (h:_∧_)=>⟨h.1,hz.trans (h.2.mono hz.size)⟩
   have M2:Hid (∀z,Below wS.heap.size wS z→Calls Tryz.prog 22 #[.agg #[.slice a2 m1 c2,.slice b2 m2 d2]] z (fun e w'=>e=.returned (.int .i64 (k1:Int))∧Below wS.heap.size wS w')):=Lib.hid fun z hz=>(K2.out z (hbS.trans (hz.mono hbS.size))).mono fun e w' (h:_∧_)=>⟨h.1,hz.trans (h.2.mono hz.size)⟩
   go_region_held3 (fun w'=>w'.cell? ⟨gv,0,none⟩=some (.slice a n c)∧w'.cell? ⟨gv,1,none⟩=some (.slice b m d)∧w'.cell? ⟨gw,0,none⟩=some (.slice a2 m1 c2)∧w'.cell? ⟨gw,1,none⟩=some (.slice b2 m2 d2))
    (first|exact HK.out _ hq|exact HK.out _ (Below.drew hq)|fail)
    (first
      |(go_at_call 22;(with_reducible refine(M1.out _ (by first|exact hq|exact Below.drew hq)).mono ?_);rintro e w6 ⟨rfl,hq6⟩;have hq:=hq6)
      |(go_at_call 22;(with_reducible refine(M2.out _ (by first|exact hq|exact Below.drew hq)).mono ?_);rintro e w6 ⟨rfl,hq6⟩;have hq:=hq6)
      |fail)
   all_goals
    have hq9:=hq
    replace h:=go_to h hq9
    have x1:=h.out.2.1.c0
    have x2:=h.out.2.1.c1
    have z1:=h.out.2.2.1.cell
    go_wp2_with fail
    refine(KC.out _ h.out.2.2.2.2 h.out.2.2.1 h.out.2.2.2.1).mono ?_
    rintro e w2 ⟨ar,nr,cr,br,mr,dr,rfl,hv,hq⟩
    replace h:=go_to h hq
    have HV:=Lib.hid hv
    clear hv hq x1 x2 z1
    have y0:=h.out.1.c0
    have y3:=h.out.1.c1
    have f0:=h.out.1.f 0
    have f1:=h.out.1.f 1
    go_wp2_with fail
    have hR:=h.out.1.set ar nr cr br mr dr
    have r0:=hR.c0
    have r1:=hR.c1
    exact bodyPost_ret (v:=.tuple #[.agg #[.slice ar nr cr,.slice br mr dr],.int .i64 r.2]) (by simp[results,Tryz.results57,go_sem,r0,r1]) rfl (ve_box (r:=r) h.out.1 h.out.2.2.2.2 (Nat.le_refl _) HV.out)
 · rw[if_neg he]
   generalize nI x.1=k1 at*
   generalize nI y.1=k2 at*
   have hkk:((k1:Int)==(k2:Int))=false:=beq_eq_false_iff_ne.2 (by omega)
   have hk3:¬k1=k2:=he
   have hk4:¬(k1:Int)=(k2:Int):=by omega
   clear V hw h1 hgv hgf hn h2 hgw hn2 hl hy he
   go_enter Tryz.func57,Tryz.ntmps57
   have x1:=h.out.2.1.c0
   have y1:=h.out.2.2.2.1.c0
   go_upto_region 5 with fail
   obtain⟨wS,hwS⟩:∃z,z=W.alloc (.cells #[.slice none 0 0,.slice none 0 0] 25):=⟨_,rfl⟩
   rw[←hwS]at h ⊢
   clear hwS x1 y1
   have hq:Below wS.heap.size wS wS:=Below.refl _ _
   have hbS:=h.out.2.2.2.2
   have HK:Hid (∀z,Below wS.heap.size wS z→z.cell? ⟨gv,0,none⟩=some (.slice a n c)∧z.cell? ⟨gv,1,none⟩=some (.slice b m d)∧z.cell? ⟨gw,0,none⟩=some (.slice a2 m1 c2)∧z.cell? ⟨gw,1,none⟩=some (.slice b2 m2 d2)):=Lib.hid fun z hz=>⟨(h.out.2.1.below hz h.out.2.1.lt).c0,(h.out.2.1.below hz h.out.2.1.lt).c1,(h.out.2.2.2.1.below hz h.out.2.2.2.1.lt).c0,(h.out.2.2.2.1.below hz h.out.2.2.2.1.lt).c1⟩
   have M1:Hid (∀z,Below wS.heap.size wS z→Calls Tryz.prog 22 #[.agg #[.slice a n c,.slice b m d]] z (fun e w'=>e=.returned (.int .i64 (k1:Int))∧Below wS.heap.size wS w')):=Lib.hid fun z hz=>(K1.out z (hbS.trans (hz.mono hbS.size))).mono fun e w' (h:_∧_)=>⟨h.1,hz.trans (h.2.mono hz.size)⟩
   have M2:Hid (∀z,Below wS.heap.size wS z→Calls Tryz.prog 22 #[.agg #[.slice a2 m1 c2,.slice b2 m2 d2]] z (fun e w'=>e=.returned (.int .i64 (k2:Int))∧Below wS.heap.size wS w')):=Lib.hid fun z hz=>(K2.out z (hbS.trans (hz.mono hbS.size))).mono fun e w' (h:_∧_)=>⟨h.1,hz.trans (h.2.mono hz.size)⟩
   go_region_held3 (fun w'=>w'.cell? ⟨gv,0,none⟩=some (.slice a n c)∧w'.cell? ⟨gv,1,none⟩=some (.slice b m d)∧w'.cell? ⟨gw,0,none⟩=some (.slice a2 m1 c2)∧w'.cell? ⟨gw,1,none⟩=some (.slice b2 m2 d2))
    (first|exact HK.out _ hq|exact HK.out _ (Below.drew hq)|fail)
    (first
      |(go_at_call 22;(with_reducible refine(M1.out _ (by first|exact hq|exact Below.drew hq)).mono ?_);rintro e w6 ⟨rfl,hq6⟩;have hq:=hq6)
      |(go_at_call 22;(with_reducible refine(M2.out _ (by first|exact hq|exact Below.drew hq)).mono ?_);rintro e w6 ⟨rfl,hq6⟩;have hq:=hq6)
      |fail)
   all_goals
    have hq9:=hq
    replace h:=go_to h hq9
    have y0:=h.out.1.c0
    have y3:=h.out.1.c1
    have f0:=h.out.1.f 0
    have f1:=h.out.1.f 1
    go_wp2_with fail
    have hR:=h.out.1.set none 0 0 none 0 0
    have r0:=hR.c0
    have r1:=hR.c1
    exact bodyPost_ret (v:=.tuple #[.agg #[.slice none 0 0,.slice none 0 0],.int .i64 4]) (by simp[results,Tryz.results57,go_sem,r0,r1]) rfl (ve_box (r:=(none,4)) h.out.1 h.out.2.2.2.2 (Nat.le_refl _) (fun q e=>by cases e))
theorem bo_is (V:VbIs W0 T p n1 n2 n0 f g u) {gv gf gw:Nat} (hw:Below W0.heap.size W0 W) (hgv:Bx W gv a n c b m d) (hgf:Boxed W gf 54 (.iface T p)) (hgw:Bx W gw a2 m1 c2 b2 m2 d2) (h1:AvQ W a n c b m d x) (h2:AvQ W a2 m1 c2 b2 m2 d2 y) (hn:nI x.1≤4096) (hn2:nI y.1≤4096):
 Calls Tryz.prog 57 #[.pointer (some ⟨gv,0,none⟩),.pointer (some ⟨gf,0,none⟩),.pointer (some ⟨gw,0,none⟩)] W (VE (boA g (some x) (some y)) (fun w'=>Below W.heap.size W w')):=by
 by_cases hl:x.1=[]
 · exact bo_left V hw hgv hgf hgw h1 h2 hn hn2 hl
 · by_cases hy:y.1=[]
   · exact bo_right V hw hgv hgf hgw h1 h2 hn hn2 hl hy
   · exact bo_two V hw hgv hgf hgw h1 h2 hn hn2 hl hy
end
end Go.Proofs.YtbijncndjlmmdaaGreatDoor

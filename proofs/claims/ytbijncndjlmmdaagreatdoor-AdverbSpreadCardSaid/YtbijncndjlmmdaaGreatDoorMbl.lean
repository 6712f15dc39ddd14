import Derived.Test.YtbijncndjlmmdaaGreatDoorMbk
import Derived.Deep.RegionHeld3
import Derived.Deep.RegionWith
set_option maxHeartbeats 6400000
set_option maxRecDepth 100000
namespace Go.Proofs.YtbijncndjlmmdaaGreatDoor
set_option linter.unusedVariables false
set_option linter.unusedSimpArgs false
open Go.RowKit
section
variable {W W0 w:World} {a b a2 b2:Option Addr} {n c m d m1 c2 m2 d2:Nat} {x y:Ar} {T:TypeId} {p:Value} {n1 n2 n0:FuncId} {f:Ar→Option Ar×Int} {g:Ar→Ar→Option Ar×Int} {u:Option Ar}
theorem below_none (h:W.grownBy w none):Below W.heap.size W w:=⟨h.os,h.tape,h.output,h.size,fun k hk=>h.block k hk (by simp)⟩
theorem joined_plain {N:FuncId} {caps:Array Value} {r:Nat→Option Ar×Int} (W:World) (h1:AvQ W a n c b m d x) (hl:x.1≠[]) (hn:nI x.1≤4096)
 (tell:∀(i:Nat) (w:World) (a:Option Addr) (n c:Nat) (b:Option Addr) (m d:Nat),i<nI x.1→Below W.heap.size W w→AvQ w a n c b m d (itA x.1 x.2 i)→Calls Tryz.prog N (#[.int .i64 (i:Int),.agg #[.slice a n c,.slice b m d]]++caps) w (VE (r i) fun w'=>Below w.heap.size w w'))
 (ent:∀args w,(callFunc N args).run Tryz.prog w=.ok (.enter N args) w) (told:∀i,i<nI x.1→Told (r i)∧Rok (r i).1):
 Calls Tryz.prog 35 #[.agg #[.slice a n c,.slice b m d],.func (.func N) #[] caps] W (VE (jnR x r) fun w'=>Below W.heap.size W w'):=by
 have H:JnH W N caps none (fun _ w=>Below W.heap.size W w) r x:=⟨fun i w a n c b m d hi hb hv=>(tell i w a n c b m d hi hb hv).mono fun e w' h=>h.mono fun w' hw=>⟨grown_no hw,fun _=>hb.trans (hw.mono hb.size)⟩,ent,fun t e=>(by cases e),fun i w _ t e=>(by cases e),
  fun i w w' hb ho=>⟨ho.os.trans hb.os,ho.tape.trans hb.tape,ho.output.trans hb.output,Nat.le_trans hb.size ho.soft.size,fun k hk=>(ho.low k hk).trans (hb.block k hk)⟩,told,Below.refl _ _⟩
 exact(joined_is W h1 hl hn H).mono fun e w h=>h.mono fun w hw=>below_none hw
def noA (u:Option Ar) (x:Ar):Option Ar×Int:=match u with
 |some v=>if x.1.length=1∨x.1=[]then(some v,0)else(none,5)
 |none=>(none,5)
def no1 (u:Option Ar):Option Ar×Int:=match u with
 |some v=>(some v,0)
 |none=>(none,5)
theorem AvQ.len (h:AvQ W a n c b m d x):x.1.length=n:=h.v.s.1
theorem AvQ.drew (h:AvQ W a n c b m d x):AvQ W.drew a n c b m d x:=h.below (Below.drew (Below.refl _ _))
theorem AvQ.rok (h:AvQ W a n c b m d x):Rok (some x):=h.i.rok
theorem it_rok (h:Rok (some x)) {i:Nat} (hi:i<nI x.1):Rok (some (itA x.1 x.2 i)):=itA_rok h (.inr hi)
theorem jn_each (hl:x.1≠[]):eaA f (some x)=jnR x fun i=>f (itA x.1 x.2 i):=by
 unfold eaA jnR
 simp only
 rw[if_neg hl]
 split
 · rfl
 · rw[iT,runL_map]
theorem jn_all (hl:y.1≠[]):alA g y x=jnR y fun i=>g x (itA y.1 y.2 i):=by
 unfold alA jnR
 rw[if_neg hl]
 split
 · rfl
 · rw[iT,runL_map]
theorem jn_left (hl:x.1≠[]) (hy:y.1=[]):boA g (some x) (some y)=jnR x fun i=>g (itA x.1 x.2 i) y:=by
 unfold boA jnR paA
 simp only
 rw[if_neg (fun h=>hl h.1),if_neg hl,if_neg (fun h=>h.1 hy)]
 split
 · rfl
 · rw[show(fun i=>g (itA x.1 x.2 i) (itA y.1 y.2 i))=fun i=>g (itA x.1 x.2 i) y from funext fun i=>by
    obtain⟨y1,y2⟩:=y
    simp only at hy
    subst hy
    rw[itA_nil]]
theorem jn_right (hl:x.1=[]):boA g (some x) (some y)=alA g y x:=by
 unfold boA alA paA
 simp only
 by_cases hy:y.1=[]
 · rw[if_pos ⟨hl,hy⟩,if_pos hy]
 · rw[if_neg (fun h=>hy h.2),if_pos hl,if_neg hy]
   split
   · rfl
   · rw[iT,runL_map,show(fun i=>g (itA x.1 x.2 i) (itA y.1 y.2 i))=fun i=>g x (itA y.1 y.2 i)from funext fun i=>by
      obtain⟨x1,x2⟩:=x
      simp only at hl
      subst hl
      rw[itA_nil]]
theorem jn_pairs (hl:x.1≠[]) (hy:y.1≠[]):boA g (some x) (some y)=if nI x.1=nI y.1 then jnR x fun i=>g (itA x.1 x.2 i) (itA y.1 y.2 i)else(none,4):=by
 unfold boA jnR paA
 simp only
 rw[if_neg (fun h=>hl h.1),if_neg hl]
 by_cases h:nI x.1=nI y.1
 · rw[if_neg (fun k=>k.2 h),if_pos h]
 · rw[if_pos ⟨hy,h⟩,if_neg h]
theorem wh_is (V:VbIs W0 T p n1 n2 n0 f g u) (hw:Below W0.heap.size W0 W) (h1:AvQ W a n c b m d x) (h2:AvQ W a2 m1 c2 b2 m2 d2 y) (hn:nI y.1≤4096):
 Calls Tryz.prog 58 #[.iface T p,.agg #[.slice a n c,.slice b m d],.agg #[.slice a2 m1 c2,.slice b2 m2 d2]] W (VE (alA g y x) (fun w'=>Below W.heap.size W w')):=by
 have hmf:∀(fn:Fn) (first cap:Array Value) (w:World),(Instr.makeFunc fn first cap).run Tryz.prog w=.ok (.func fn first cap) w:=fun _ _ _ _=>rfl
 have h:Lv (fun w=>Bx w (W.heap.size+3) none 0 0 none 0 0∧Bx w (W.heap.size+1) a n c b m d∧Bx w (W.heap.size+2) a2 m1 c2 b2 m2 d2∧Boxed w W.heap.size 54 (.iface T p)∧Below W.heap.size W w) ((((W.alloc (.cells #[.iface T p] 54)).alloc (.cells #[.slice a n c,.slice b m d] 25)).alloc (.cells #[.slice a2 m1 c2,.slice b2 m2 d2] 25)).alloc (.cells #[.slice none 0 0,.slice none 0 0] 25)):=by
  refine⟨⟨?_,?_,?_,(((Boxed.new W _ _).alloc _).alloc _).alloc _,((((Below.refl _ _).alloc (Nat.le_refl _) _).alloc (by simp) _).alloc (by simp;omega) _).alloc (by simp;omega) _⟩⟩
  · exact Bx.newG _ _ (by simp) _ _ _ _ _ _
  · exact((Bx.newG (W.alloc (.cells #[.iface T p] 54)) _ (by simp) _ _ _ _ _ _).alloc _).alloc _
  · exact(Bx.newG ((W.alloc (.cells #[.iface T p] 54)).alloc (.cells #[.slice a n c,.slice b m d] 25)) _ (by simp) _ _ _ _ _ _).alloc _
 have hm2:=V.m2
 have he2:=V.e2
 by_cases hl:y.1=[]
 · have KC:=Lib.hid (fun w (hb:Below W.heap.size W w)=>V.two (hw.trans (hb.mono hw.size)) (h1.below hb) (h2.below hb))
   have e0:m1=0:=by rw[←h2.len,hl];rfl
   rw[show alA g y x=g x y from if_pos hl]
   generalize g x y=r at*
   subst e0
   clear V hw h1 h2 hl hn
   go_enter Tryz.func58,Tryz.ntmps58
   have x1:=h.out.2.1.c0
   have x1b:=h.out.2.1.c1
   have y1:=h.out.2.2.1.c0
   have y1b:=h.out.2.2.1.c1
   have z1:=h.out.2.2.2.1.cell
   go_wp2_with fail
   refine(KC.out _ h.out.2.2.2.2).mono ?_
   rintro e w2 ⟨ar,nr,cr,br,mr,dr,rfl,hv,hq⟩
   replace h:=go_to h hq
   have HV:=Lib.hid hv
   clear hv hq x1 x1b y1 y1b z1
   have y0:=h.out.1.c0
   have y3:=h.out.1.c1
   have f0:=h.out.1.f 0
   have f1:=h.out.1.f 1
   go_wp2_with fail
   have hR:=h.out.1.set ar nr cr br mr dr
   have r0:=hR.c0
   have r1:=hR.c1
   exact bodyPost_ret (v:=.tuple #[.agg #[.slice ar nr cr,.slice br mr dr],.int .i64 r.2]) (by simp[results,Tryz.results58,go_sem,r0,r1]) rfl (ve_box (r:=r) h.out.1 h.out.2.2.2.2 (by omega) (ts_some HV.out.v))
 · have KC:Hid (∀w,Below W.heap.size W w→Boxed w W.heap.size 54 (.iface T p)→Bx w (W.heap.size+1) a n c b m d→Calls Tryz.prog 35 #[.agg #[.slice a2 m1 c2,.slice b2 m2 d2],.func (.func 100) #[] #[.pointer (some ⟨W.heap.size,0,none⟩),.pointer (some ⟨W.heap.size+1,0,none⟩)]] w (VE (jnR y fun i=>g x (itA y.1 y.2 i)) fun w'=>Below w.heap.size w w')):=Lib.hid fun w hb hf hv=>
    joined_plain w (h2.below hb) hl hn (fun i z a n c b m d hi hz hav=>wh1_is V ((hw.trans (hb.mono hw.size)).trans (hz.mono (Nat.le_trans hw.size hb.size))) (boxed_bel hf hz) (hv.below hz hv.lt) hav ((h1.below hb).below hz) _) (enters_of Tryz.func100 (by kernel_rfl) rfl) (fun i hi=>V.v2 _ _ h1.rok (it_rok h2.rok hi))
   have e0:((m1:Int)==0)=false:=beq_eq_false_iff_ne.2 (by have:=h2.len;intro e;exact hl (List.length_eq_zero_iff.1 (by omega)))
   rw[jn_all hl]
   generalize (jnR y fun i=>g x (itA y.1 y.2 i))=r at*
   clear V hw h1 h2 hl hn
   go_enter Tryz.func58,Tryz.ntmps58
   have x1:=h.out.2.1.c0
   have x1b:=h.out.2.1.c1
   have y1:=h.out.2.2.1.c0
   have y1b:=h.out.2.2.1.c1
   have z1:=h.out.2.2.2.1.cell
   go_wp2_with fail
   refine(KC.out _ h.out.2.2.2.2 h.out.2.2.2.1 h.out.2.1).mono ?_
   rintro e w2 ⟨ar,nr,cr,br,mr,dr,rfl,hv,hq⟩
   replace h:=go_to h hq
   have HV:=Lib.hid hv
   clear hv hq x1 x1b y1 y1b z1
   have y0:=h.out.1.c0
   have y3:=h.out.1.c1
   have f0:=h.out.1.f 0
   have f1:=h.out.1.f 1
   go_wp2_with fail
   have hR:=h.out.1.set ar nr cr br mr dr
   have r0:=hR.c0
   have r1:=hR.c1
   exact bodyPost_ret (v:=.tuple #[.agg #[.slice ar nr cr,.slice br mr dr],.int .i64 r.2]) (by simp[results,Tryz.results58,go_sem,r0,r1]) rfl (ve_box (r:=r) h.out.1 h.out.2.2.2.2 (by omega) HV.out)
theorem no_is (V:VbIs W0 T p n1 n2 n0 f g u) (hw:Below W0.heap.size W0 W) (h1:AvQ W a n c b m d x):
 Calls Tryz.prog 42 #[.iface T p,.agg #[.slice a n c,.slice b m d]] W (VE (noA u x) (fun w'=>Below W.heap.size W w')):=by
 have h:=live1 W a n c b m d
 have hm0:=V.m0
 have he0:=V.e0
 have KC:=Lib.hid (fun w (hb:Below W.heap.size W w)=>V.unit (hw.trans (hb.mono hw.size)))
 have hlen:=h1.len
 by_cases h1n:1<n
 · have e1:¬(x.1.length=1∨x.1=[]):=by
    rintro(e|e)
    · omega
    · rw[e]at hlen;simp at hlen;omega
   rw[show noA u x=(none,5)by
    cases u with
    |none=>rfl
    |some v=>exact if_neg e1]
   have h2n:(1:Int)<(n:Int):=by omega
   clear V hw h1 hlen e1 KC
   go_enter Tryz.func42,Tryz.ntmps42
   have x1:=h.out.2.1.c0
   have y0:=h.out.1.c0
   have y3:=h.out.1.c1
   have f0:=h.out.1.f 0
   have f1:=h.out.1.f 1
   go_wp2_with fail
   exact bodyPost_ret (v:=.tuple #[.agg #[.slice none 0 0,.slice none 0 0],.int .i64 5]) (by simp[results,Tryz.results42,go_sem]) rfl ⟨_,_,_,_,_,_,rfl,fun q e=>(by cases e),h.out.2.2⟩
 · have e1:x.1.length=1∨x.1=[]:=by
    rcases Nat.lt_or_ge 0 n with h0|h0
    · exact .inl (by omega)
    · exact .inr (List.length_eq_zero_iff.1 (by omega))
   have h2n:¬(1:Int)<(n:Int):=by omega
   rw[show noA u x=no1 u by
    cases u with
    |none=>rfl
    |some v=>exact if_pos e1]
   clear V hw h1 hlen e1
   go_enter Tryz.func42,Tryz.ntmps42
   have x1:=h.out.2.1.c0
   go_wp2_with fail
   refine(KC.out _ h.out.2.2).mono ?_
   rintro e w2 ⟨ar,nr,cr,br,mr,dr,rfl,hv,hq⟩
   replace h:=live_box (go_to h hq) hv.v cr dr
   have HV:=Lib.hid hv
   clear hv hq x1
   have u0:=h.out.1.c0
   have u1:=h.out.1.c1
   have y0:=h.out.2.2.1.c0
   have y3:=h.out.2.2.1.c1
   have f0:=h.out.2.2.1.f 0
   have f1:=h.out.2.2.1.f 1
   cases u with
   |none=>
    go_wp2_with fail
    have hR:=h.out.2.2.1.set none 0 0 none 0 0
    have r0:=hR.c0
    have r1:=hR.c1
    exact bodyPost_ret (v:=.tuple #[.agg #[.slice none 0 0,.slice none 0 0],.int .i64 5]) (by simp[results,Tryz.results42,go_sem,r0,r1]) rfl (ve_box (r:=(none,5)) h.out.2.2.1 h.out.2.2.2.2 (by omega) (fun q e=>by cases e))
   |some v=>
    go_wp2_with fail
    have hR:=h.out.2.2.1.set ar nr cr br mr dr
    have r0:=hR.c0
    have r1:=hR.c1
    exact bodyPost_ret (v:=.tuple #[.agg #[.slice ar nr cr,.slice br mr dr],.int .i64 0]) (by simp[results,Tryz.results42,go_sem,r0,r1]) rfl (ve_box (r:=(some v,0)) h.out.2.2.1 h.out.2.2.2.2 (by omega) (fun q e=>by injection e with e;subst e;exact h.out.2.1))
theorem ea_is (V:VbIs W0 T p n1 n2 n0 f g u) {gv gf:Nat} (hw:Below W0.heap.size W0 W) (hgv:Bx W gv a n c b m d) (hgf:Boxed W gf 54 (.iface T p)) (h1:AvQ W a n c b m d x) (hn:nI x.1≤4096):
 Calls Tryz.prog 34 #[.pointer (some ⟨gv,0,none⟩),.pointer (some ⟨gf,0,none⟩)] W (VE (eaA f (some x)) (fun w'=>Below W.heap.size W w')):=by
 have hmf:∀(fn:Fn) (first cap:Array Value) (w:World),(Instr.makeFunc fn first cap).run Tryz.prog w=.ok (.func fn first cap) w:=fun _ _ _ _=>rfl
 have h:Lv (fun w=>Bx w W.heap.size none 0 0 none 0 0∧Bx w gv a n c b m d∧Boxed w gf 54 (.iface T p)∧Below W.heap.size W w) (W.alloc (.cells #[.slice none 0 0,.slice none 0 0] 25)):=⟨⟨Bx.new _ _ _ _ _ _ _,hgv.alloc _,hgf.alloc _,(Below.refl _ _).alloc (Nat.le_refl _) _⟩⟩
 have hm1:=V.m1
 have he1:=V.e1
 by_cases hl:x.1=[]
 · have KC:=Lib.hid (fun w (hb:Below W.heap.size W w)=>V.one (hw.trans (hb.mono hw.size)) (h1.below hb))
   have e0:n=0:=by rw[←h1.len,hl];rfl
   rw[show eaA f (some x)=f x from if_pos hl]
   subst e0
   generalize f x=r at*
   clear V hw h1 hgv hgf hn hl
   go_enter Tryz.func34,Tryz.ntmps34
   have x1:=h.out.2.1.c0
   have x1b:=h.out.2.1.c1
   have z1:=h.out.2.2.1.cell
   go_wp2_with fail
   refine(KC.out _ h.out.2.2.2).mono ?_
   rintro e w2 ⟨ar,nr,cr,br,mr,dr,rfl,hv,hq⟩
   replace h:=go_to h hq
   have HV:=Lib.hid hv
   clear hv hq x1 x1b z1
   have y0:=h.out.1.c0
   have y3:=h.out.1.c1
   have f0:=h.out.1.f 0
   have f1:=h.out.1.f 1
   go_wp2_with fail
   have hR:=h.out.1.set ar nr cr br mr dr
   have r0:=hR.c0
   have r1:=hR.c1
   exact bodyPost_ret (v:=.tuple #[.agg #[.slice ar nr cr,.slice br mr dr],.int .i64 r.2]) (by simp[results,Tryz.results34,go_sem,r0,r1]) rfl (ve_box (r:=r) h.out.1 h.out.2.2.2 (by omega) (ts_some HV.out.v))
 · have KC:Hid (∀w,Below W.heap.size W w→Boxed w gf 54 (.iface T p)→Calls Tryz.prog 35 #[.agg #[.slice a n c,.slice b m d],.func (.func 36) #[] #[.pointer (some ⟨gf,0,none⟩)]] w (VE (jnR x fun i=>f (itA x.1 x.2 i)) fun w'=>Below w.heap.size w w')):=Lib.hid fun w hb hf=>joined_plain w (h1.below hb) hl hn (fun i z a n c b m d hi hz hav=>ea1_is V ((hw.trans (hb.mono hw.size)).trans (hz.mono (Nat.le_trans hw.size hb.size))) (boxed_bel hf hz) hav _) (enters_of Tryz.func36 (by kernel_rfl) rfl) (fun i hi=>V.v1 _ (it_rok h1.rok hi))
   have e0:((n:Int)==0)=false:=beq_eq_false_iff_ne.2 (by have:=h1.len;intro e;exact hl (List.length_eq_zero_iff.1 (by omega)))
   rw[jn_each hl]
   generalize (jnR x fun i=>f (itA x.1 x.2 i))=r at*
   clear V hw h1 hgv hgf hn hl
   go_enter Tryz.func34,Tryz.ntmps34
   have x1:=h.out.2.1.c0
   have x1b:=h.out.2.1.c1
   have z1:=h.out.2.2.1.cell
   go_wp2_with fail
   refine(KC.out _ h.out.2.2.2 h.out.2.2.1).mono ?_
   rintro e w2 ⟨ar,nr,cr,br,mr,dr,rfl,hv,hq⟩
   replace h:=go_to h hq
   have HV:=Lib.hid hv
   clear hv hq x1 x1b z1
   have y0:=h.out.1.c0
   have y3:=h.out.1.c1
   have f0:=h.out.1.f 0
   have f1:=h.out.1.f 1
   go_wp2_with fail
   have hR:=h.out.1.set ar nr cr br mr dr
   have r0:=hR.c0
   have r1:=hR.c1
   exact bodyPost_ret (v:=.tuple #[.agg #[.slice ar nr cr,.slice br mr dr],.int .i64 r.2]) (by simp[results,Tryz.results34,go_sem,r0,r1]) rfl (ve_box (r:=r) h.out.1 h.out.2.2.2 (by omega) HV.out)
end
end Go.Proofs.YtbijncndjlmmdaaGreatDoor
namespace Go.Proofs.YtbijncndjlmmdaaGreatDoor
set_option linter.unusedVariables false
set_option linter.unusedSimpArgs false
open Go.RowKit
section
variable {W W0 w:World} {a b a2 b2:Option Addr} {n c m d m1 c2 m2 d2:Nat} {x y:Ar} {T:TypeId} {p:Value} {n1 n2 n0:FuncId} {f:Ar→Option Ar×Int} {g:Ar→Ar→Option Ar×Int} {u:Option Ar}
theorem itemAt_q (h1:AvQ W a n c b m d x) (hl:x.1≠[]) {i:Nat} (hi:i<nI x.1):Calls Tryz.prog 50 #[.agg #[.slice a n c,.slice b m d],.int .i64 (i:Int)] W (ItQ (itA x.1 x.2 i) W):=itemAt_is h1 hl hi
def C3 (gf gi gw:Nat) (T:TypeId) (p:Value) (a:Option Addr) (n c:Nat) (b:Option Addr) (m d:Nat) (a2:Option Addr) (m1 c2:Nat) (b2:Option Addr) (m2 d2:Nat) (w:World):Prop:=
 w.cell? ⟨gf,0,none⟩=some (.iface T p)∧w.cell? ⟨gi,0,none⟩=some (.slice a n c)∧w.cell? ⟨gi,1,none⟩=some (.slice b m d)∧w.cell? ⟨gw,0,none⟩=some (.slice a2 m1 c2)∧w.cell? ⟨gw,1,none⟩=some (.slice b2 m2 d2)
theorem C3.of {gf gi gw:Nat} (hf:Boxed w gf 54 (.iface T p)) (hi:Bx w gi a n c b m d) (hw:Bx w gw a2 m1 c2 b2 m2 d2):C3 gf gi gw T p a n c b m d a2 m1 c2 b2 m2 d2 w:=⟨hf.cell,hi.c0,hi.c1,hw.c0,hw.c1⟩
theorem C3.set {gf gi gw g:Nat} (h:C3 gf gi gw T p a n c b m d a2 m1 c2 b2 m2 d2 w) (h1:gf≠g) (h2:gi≠g) (h3:gw≠g) (u v:Value):C3 gf gi gw T p a n c b m d a2 m1 c2 b2 m2 d2 ((w.setCell ⟨g,0,none⟩ u).setCell ⟨g,1,none⟩ v):=by
 have hne:∀{k:Nat} (i j:Nat),k≠g→(⟨g,i,none⟩:Addr)≠⟨k,j,none⟩:=fun i j hk e=>by injection e with e;exact hk e.symm
 obtain⟨c1,c2,c3,c4,c5⟩:=h
 refine⟨?_,?_,?_,?_,?_⟩
 · rw[World.cell?_setCell_other _ _ _ _ (hne 1 0 h1),World.cell?_setCell_other _ _ _ _ (hne 0 0 h1)];exact c1
 · rw[World.cell?_setCell_other _ _ _ _ (hne 1 0 h2),World.cell?_setCell_other _ _ _ _ (hne 0 0 h2)];exact c2
 · rw[World.cell?_setCell_other _ _ _ _ (hne 1 1 h2),World.cell?_setCell_other _ _ _ _ (hne 0 1 h2)];exact c3
 · rw[World.cell?_setCell_other _ _ _ _ (hne 1 0 h3),World.cell?_setCell_other _ _ _ _ (hne 0 0 h3)];exact c4
 · rw[World.cell?_setCell_other _ _ _ _ (hne 1 1 h3),World.cell?_setCell_other _ _ _ _ (hne 0 1 h3)];exact c5
theorem bo2_is (V:VbIs W0 T p n1 n2 n0 f g u) {gf gw:Nat} (hw:Below W0.heap.size W0 W) (hgf:Boxed W gf 54 (.iface T p)) (hgw:Bx W gw a2 m1 c2 b2 m2 d2) (h1:AvQ W a n c b m d x) (h2:AvQ W a2 m1 c2 b2 m2 d2 y) (hl:y.1≠[]) {i:Nat} (hi:i<nI y.1):
 Calls Tryz.prog 60 #[.int .i64 (i:Int),.agg #[.slice a n c,.slice b m d],.pointer (some ⟨gf,0,none⟩),.pointer (some ⟨gw,0,none⟩)] W (VE (g x (itA y.1 y.2 i)) (fun w'=>Below W.heap.size W w')):=by
 have h:Lv (fun w=>Bx w (W.heap.size+1) none 0 0 none 0 0∧Bx w W.heap.size a n c b m d∧Boxed w gf 54 (.iface T p)∧Bx w gw a2 m1 c2 b2 m2 d2∧Below W.heap.size W w) ((W.alloc (.cells #[.slice a n c,.slice b m d] 25)).alloc (.cells #[.slice none 0 0,.slice none 0 0] 25)):=⟨⟨Bx.two W _ _ _ _ _ _ _,(Bx.new W a n c b m d).alloc _,((hgf.alloc _).alloc _),((hgw.alloc _).alloc _),((Below.refl _ _).alloc (Nat.le_refl _) _).alloc (by simp) _⟩⟩
 have KA:=Lib.hid (fun w (hb:Below W.heap.size W w)=>itemAt_q (h2.below hb) hl hi)
 generalize itA y.1 y.2 i=yi at*
 have KC:Hid (∀z ai ni ci bi mi di,Below W.heap.size W z→AvQ z ai ni ci bi mi di yi→Calls Tryz.prog n2 #[p,.agg #[.slice a n c,.slice b m d],.agg #[.slice ai ni ci,.slice bi mi di]] z (MEnd (g x yi) z)):=Lib.hid fun z ai ni ci bi mi di hz hav=>V.two (hw.trans (hz.mono hw.size)) (h1.below hz) hav
 have LT:=Lib.hid (And.intro hgf.lt hgw.lt)
 have hm2:=V.m2
 have he2:=V.e2
 have ha2:=V.a2
 generalize g x yi=r at*
 clear V hw h1 h2 hgf hgw hl hi
 go_enter Tryz.func60,Tryz.ntmps60
 go_upto_region 1 with fail
 obtain⟨wS,hwS⟩:∃z,z=(W.alloc (.cells #[.slice a n c,.slice b m d] 25)).alloc (.cells #[.slice none 0 0,.slice none 0 0] 25):=⟨_,rfl⟩
 rw[←hwS]at h ⊢
 clear hwS
 have hq:Below wS.heap.size wS wS:=Below.refl _ _
 have hbS:=h.out.2.2.2.2
 have HK:Hid (∀z,Below wS.heap.size wS z→C3 gf W.heap.size gw T p a n c b m d a2 m1 c2 b2 m2 d2 z):=Lib.hid fun z hz=>C3.of (boxed_bel h.out.2.2.1 hz) (h.out.2.1.below hz h.out.2.1.lt) (h.out.2.2.2.1.below hz h.out.2.2.2.1.lt)
 have KI:Hid (∀z,Below wS.heap.size wS z→Calls Tryz.prog 50 #[.agg #[.slice a2 m1 c2,.slice b2 m2 d2],.int .i64 (i:Int)] z (fun e w'=>∃a n c b m d,e=.returned (.agg #[.slice a n c,.slice b m d])∧AvQ w' a n c b m d yi∧Below wS.heap.size wS w')):=Lib.hid fun z hz=>(KA.out z (hbS.trans (hz.mono hbS.size))).mono fun e w' ⟨a,n,c,b,m,d,h1,h2,h3⟩=>⟨a,n,c,b,m,d,h1,h2,hz.trans (h3.mono hz.size)⟩
 have KT:Hid (∀z ai ni ci bi mi di,Below wS.heap.size wS z→AvQ z ai ni ci bi mi di yi→Calls Tryz.prog n2 #[p,.agg #[.slice a n c,.slice b m d],.agg #[.slice ai ni ci,.slice bi mi di]] z (fun e w'=>∃a n c b m d,e=.returned (.tuple #[.agg #[.slice a n c,.slice b m d],.int .i64 r.2])∧(∀q,r.1=some q→Vl w' a n b m q.1 (q.2.map S))∧Below wS.heap.size wS w')):=Lib.hid fun z ai ni ci bi mi di hz hav=>(KC.out z ai ni ci bi mi di (hbS.trans (hz.mono hbS.size)) hav).mono fun e w' ⟨a,n,c,b,m,d,h1,h2,h3⟩=>⟨a,n,c,b,m,d,h1,ts_some h2.v,hz.trans (h3.mono hz.size)⟩
 have hg1:gf≠W.heap.size+1:=by have:=LT.out;omega
 have hg2:gw≠W.heap.size+1:=by have:=LT.out;omega
 go_region_held3 (fun w'=>w'.cell? ⟨gf,0,none⟩=some (.iface T p)∧w'.cell? ⟨W.heap.size,0,none⟩=some (.slice a n c)∧w'.cell? ⟨W.heap.size,1,none⟩=some (.slice b m d)∧w'.cell? ⟨gw,0,none⟩=some (.slice a2 m1 c2)∧w'.cell? ⟨gw,1,none⟩=some (.slice b2 m2 d2))
  (first|exact HK.out _ hq|exact HK.out _ (Below.drew hq)|exact C3.set (HK.out _ hq) hg1 (by omega) hg2 _ _|fail)
  (first
    |(go_at_call 50;(with_reducible refine(KI.out _ (by first|exact hq|exact Below.drew hq)).mono ?_);rintro e w6 ⟨ai,ni,ci,bi,mi,di,rfl,hav,hq6⟩;have hq:=hq6)
    |((with_reducible refine(KT.out _ ai ni ci bi mi di (by first|exact hq|exact Below.drew hq) (by first|exact hav|exact AvQ.drew hav)).mono ?_);rintro e w7 ⟨ar,nr,cr,br,mr,dr,rfl,hv,hq7⟩;have hq:=hq7;have hBR:=h.out.1.below hq h.out.1.lt;have y0:=hBR.c0;have y1:=hBR.c1;have f0:=hBR.f 0;have f1:=hBR.f 1)
    |fail)
 all_goals
  go_wp2_with fail
  have hR:=hBR.set ar nr cr br mr dr
  have r0:=hR.c0
  have r1:=hR.c1
  exact bodyPost_ret (v:=.tuple #[.agg #[.slice ar nr cr,.slice br mr dr],.int .i64 r.2]) (by simp[results,Tryz.results60,go_sem,r0,r1]) rfl (ve_box (r:=r) hBR (hbS.trans (hq7.mono hbS.size)) (by omega) hv)
theorem pr1_is (V:VbIs W0 T p n1 n2 n0 f g u) {gf gw:Nat} (hw:Below W0.heap.size W0 W) (hgf:Boxed W gf 54 (.iface T p)) (hgw:Bx W gw a2 m1 c2 b2 m2 d2) (h1:AvQ W a n c b m d x) (h2:AvQ W a2 m1 c2 b2 m2 d2 y) (hl:y.1≠[]) {i:Nat} (hi:i<nI y.1):
 Calls Tryz.prog 49 #[.int .i64 (i:Int),.agg #[.slice a n c,.slice b m d],.pointer (some ⟨gf,0,none⟩),.pointer (some ⟨gw,0,none⟩)] W (VE (if i=0 then(some x,0)else g x (itA y.1 y.2 (i-1))) (fun w'=>Below W.heap.size W w')):=by
 have h:Lv (fun w=>Bx w (W.heap.size+1) none 0 0 none 0 0∧Bx w W.heap.size a n c b m d∧Boxed w gf 54 (.iface T p)∧Bx w gw a2 m1 c2 b2 m2 d2∧Below W.heap.size W w) ((W.alloc (.cells #[.slice a n c,.slice b m d] 25)).alloc (.cells #[.slice none 0 0,.slice none 0 0] 25)):=⟨⟨Bx.two W _ _ _ _ _ _ _,(Bx.new W a n c b m d).alloc _,((hgf.alloc _).alloc _),((hgw.alloc _).alloc _),((Below.refl _ _).alloc (Nat.le_refl _) _).alloc (by simp) _⟩⟩
 have hi2:i≤1099511627776:=by
  have h3:=(Av.items h2).2.2.1
  rw[mN_nI hl]at h3
  omega
 by_cases h0:i=0
 · subst h0
   have HX:=Lib.hid h1.v
   rw[if_pos rfl]
   clear V hw h1 h2 hgf hgw hl hi
   go_enter Tryz.func49,Tryz.ntmps49
   have x1:=h.out.2.1.c0
   have x2:=h.out.2.1.c1
   have y0:=h.out.1.c0
   have y3:=h.out.1.c1
   have f0:=h.out.1.f 0
   have f1:=h.out.1.f 1
   have HH:=Lib.hid h
   clear h
   go_wp2_with fail
   have hb2:Below W.heap.size W ((W.alloc (.cells #[.slice a n c,.slice b m d] 25)).alloc (.cells #[.slice a n c,.slice b m d] 25)):=((Below.refl _ _).alloc (Nat.le_refl _) _).alloc (by simp) _
   have hR:=Bx.two W (.cells #[.slice a n c,.slice b m d] 25) a n c b m d
   have r0:=hR.c0
   have r1:=hR.c1
   exact bodyPost_ret (v:=.tuple #[.agg #[.slice a n c,.slice b m d],.int .i64 0]) (by simp[results,Tryz.results49,go_sem,r0,r1]) rfl ⟨_,_,_,_,_,_,rfl,fun q e=>(by injection e with e;subst e;exact HX.out.below hb2),hb2⟩
 · obtain⟨k,rfl⟩:∃k,i=k+1:=⟨i-1,by omega⟩
   rw[if_neg h0,Nat.add_sub_cancel]
   have KA:=Lib.hid (fun w (hb:Below W.heap.size W w)=>itemAt_q (h2.below hb) hl (i:=k) (by omega))
   generalize itA y.1 y.2 k=yi at*
   have hk1:IntKind.i64.wrap ((k:Int)+1-1)=(k:Int):=by
    rw[Int.add_sub_cancel]
    exact IntWalk.i64_in _ (by omega)
   have hk2:IntKind.i64.wrap (k:Int)=(k:Int):=IntWalk.i64_in _ (by omega)
   have hk0:¬(k:Int)+1=0:=by omega
   have KC:Hid (∀z ai ni ci bi mi di,Below W.heap.size W z→AvQ z ai ni ci bi mi di yi→Calls Tryz.prog n2 #[p,.agg #[.slice a n c,.slice b m d],.agg #[.slice ai ni ci,.slice bi mi di]] z (MEnd (g x yi) z)):=Lib.hid fun z ai ni ci bi mi di hz hav=>V.two (hw.trans (hz.mono hw.size)) (h1.below hz) hav
   have LT:=Lib.hid (And.intro hgf.lt hgw.lt)
   have hm2:=V.m2
   have he2:=V.e2
   have ha2:=V.a2
   generalize g x yi=r at*
   clear V hw h1 h2 hgf hgw hl hi h0 hi2
   go_enter Tryz.func49,Tryz.ntmps49
   go_upto_region 3 with fail
   obtain⟨wS,hwS⟩:∃z,z=(W.alloc (.cells #[.slice a n c,.slice b m d] 25)).alloc (.cells #[.slice none 0 0,.slice none 0 0] 25):=⟨_,rfl⟩
   rw[←hwS]at h ⊢
   clear hwS
   have hq:Below wS.heap.size wS wS:=Below.refl _ _
   have hbS:=h.out.2.2.2.2
   have HK:Hid (∀z,Below wS.heap.size wS z→C3 gf W.heap.size gw T p a n c b m d a2 m1 c2 b2 m2 d2 z):=Lib.hid fun z hz=>C3.of (boxed_bel h.out.2.2.1 hz) (h.out.2.1.below hz h.out.2.1.lt) (h.out.2.2.2.1.below hz h.out.2.2.2.1.lt)
   have KI:Hid (∀z,Below wS.heap.size wS z→Calls Tryz.prog 50 #[.agg #[.slice a2 m1 c2,.slice b2 m2 d2],.int .i64 (k:Int)] z (fun e w'=>∃a n c b m d,e=.returned (.agg #[.slice a n c,.slice b m d])∧AvQ w' a n c b m d yi∧Below wS.heap.size wS w')):=Lib.hid fun z hz=>(KA.out z (hbS.trans (hz.mono hbS.size))).mono fun e w' ⟨a,n,c,b,m,d,h1,h2,h3⟩=>⟨a,n,c,b,m,d,h1,h2,hz.trans (h3.mono hz.size)⟩
   have KT:Hid (∀z ai ni ci bi mi di,Below wS.heap.size wS z→AvQ z ai ni ci bi mi di yi→Calls Tryz.prog n2 #[p,.agg #[.slice a n c,.slice b m d],.agg #[.slice ai ni ci,.slice bi mi di]] z (fun e w'=>∃a n c b m d,e=.returned (.tuple #[.agg #[.slice a n c,.slice b m d],.int .i64 r.2])∧(∀q,r.1=some q→Vl w' a n b m q.1 (q.2.map S))∧Below wS.heap.size wS w')):=Lib.hid fun z ai ni ci bi mi di hz hav=>(KC.out z ai ni ci bi mi di (hbS.trans (hz.mono hbS.size)) hav).mono fun e w' ⟨a,n,c,b,m,d,h1,h2,h3⟩=>⟨a,n,c,b,m,d,h1,ts_some h2.v,hz.trans (h3.mono hz.size)⟩
   have hg1:gf≠W.heap.size+1:=by have:=LT.out;omega
   have hg2:gw≠W.heap.size+1:=by have:=LT.out;omega
   go_region_held3 (fun w'=>w'.cell? ⟨gf,0,none⟩=some (.iface T p)∧w'.cell? ⟨W.heap.size,0,none⟩=some (.slice a n c)∧w'.cell? ⟨W.heap.size,1,none⟩=some (.slice b m d)∧w'.cell? ⟨gw,0,none⟩=some (.slice a2 m1 c2)∧w'.cell? ⟨gw,1,none⟩=some (.slice b2 m2 d2))
    (first|exact HK.out _ hq|exact HK.out _ (Below.drew hq)|exact C3.set (HK.out _ hq) hg1 (by omega) hg2 _ _|fail)
    (first
      |(go_at_call 50;(with_reducible refine(KI.out _ (by first|exact hq|exact Below.drew hq)).mono ?_);rintro e w6 ⟨ai,ni,ci,bi,mi,di,rfl,hav,hq6⟩;have hq:=hq6)
      |((with_reducible refine(KT.out _ ai ni ci bi mi di (by first|exact hq|exact Below.drew hq) (by first|exact hav|exact AvQ.drew hav)).mono ?_);rintro e w7 ⟨ar,nr,cr,br,mr,dr,rfl,hv,hq7⟩;have hq:=hq7;have hBR:=h.out.1.below hq h.out.1.lt;have y0:=hBR.c0;have y1:=hBR.c1;have f0:=hBR.f 0;have f1:=hBR.f 1)
      |fail)
   all_goals
    go_wp2_with fail
    have hR:=hBR.set ar nr cr br mr dr
    have r0:=hR.c0
    have r1:=hR.c1
    exact bodyPost_ret (v:=.tuple #[.agg #[.slice ar nr cr,.slice br mr dr],.int .i64 r.2]) (by simp[results,Tryz.results49,go_sem,r0,r1]) rfl (ve_box (r:=r) hBR (hbS.trans (hq7.mono hbS.size)) (by omega) hv)
end
end Go.Proofs.YtbijncndjlmmdaaGreatDoor

import Derived.Test.YtbijncndjlmmdaaGreatDoorMbj
import Derived.Test.YtbijncndjlmmdaaGreatDoorMas
set_option maxHeartbeats 6400000
set_option maxRecDepth 100000
namespace Go.Proofs.YtbijncndjlmmdaaGreatDoor
set_option linter.unusedVariables false
set_option linter.unusedSimpArgs false
open Go.RowKit Go.Shelf
attribute [local go_sem] Oper.semAt_some
structure Own2 (B:Nat) (w w':World):Prop where
 os:w'.os=w.os
 tape:w'.tape=w.tape
 output:w'.output=w.output
 soft:Soft w w'
 low:∀k,k<B→w'.heap[k]?=w.heap[k]?
theorem own2_below {B:Nat} {w w':World} (h:Below w.heap.size w w') (hB:B≤w.heap.size):Own2 B w w':=⟨h.os,h.tape,h.output,below_soft h (Nat.le_refl _),fun k hk=>h.block k (by omega)⟩
theorem own2_put {B l:Nat} {w:World} {o:Obj} (o':Obj) (hl:B≤l) (h:w.heap[l]?=some o) (ho:o.isCells=false):Own2 B w (w.putObj l o'):=⟨rfl,rfl,rfl,soft_put o' h ho,fun k hk=>World.putObj_heap_other (by omega)⟩
def TellIs (N:FuncId) (caps:Array Value) (T:Option Nat) (I:Nat→World→Prop) (r:Nat→Option Ar×Int) (q:Ar):Prop:=
 ∀(i:Nat) (w:World) (a:Option Addr) (n c:Nat) (b:Option Addr) (m d:Nat),i<nI q.1→I i w→AvQ w a n c b m d (itA q.1 q.2 i)→
  Calls Tryz.prog N (#[.int .i64 (i:Int),.agg #[.slice a n c,.slice b m d]]++caps) w (VE (r i) fun w'=>w.grownBy w' T∧((r i).1≠none→I (i+1) w'))
structure JnH (W0:World) (N:FuncId) (caps:Array Value) (T:Option Nat) (I:Nat→World→Prop) (r:Nat→Option Ar×Int) (q:Ar):Prop where
 tell:TellIs N caps T I r q
 ent:∀args w,(callFunc N args).run Tryz.prog w=.ok (.enter N args) w
 low:∀t,T=some t→t<W0.heap.size
 soft:∀i w,I i w→∀t,T=some t→NoData w t∧∀o,w.heap[t]?=some o→o.isCells=true
 stb:∀i w w',I i w→Own2 W0.heap.size w w'→I i w'
 told:∀i,i<nI q.1→Told (r i)∧Rok (r i).1
 beg:I 0 W0
structure JnI (W0:World) (T:Option Nat) (I:Nat→World→Prop) (r:Nat→Option Ar×Int) (gl:Nat) (tv:Value) (i:Nat) (W:World):Prop where
 row:∃v rs qs,Boxed W gl 59 v∧Lr W (gl+2) v rs qs∧qs.length=i∧runL r (List.range i)=(some qs,0)
 tl:Boxed W (W0.heap.size+1) 57 tv
 rs:Bx W (W0.heap.size+2) none 0 0 none 0 0
 er:Boxed W (W0.heap.size+3) 28 (.int .i64 0)
 inv:I i W
 gr:W0.grownBy W T
structure JnX (W0:World) (T:Option Nat) (r:Nat→Option Ar×Int) (n:Nat) (W:World):Prop where
 out:∃k,runL r (List.range n)=(none,k)∧Bx W (W0.heap.size+2) none 0 0 none 0 0∧Boxed W (W0.heap.size+3) 28 (.int .i64 k)
 gr:W0.grownBy W T
theorem grown_trans {a b c:World} {T:Option Nat} (h:a.grownBy b T) (k:b.grownBy c T):a.grownBy c T:=World.grownBy.trans h k
theorem grown_put {a b:World} {T:Option Nat} (h:a.grownBy b T) {l:Nat} (o':Obj) (hl:a.heap.size≤l):a.grownBy (b.putObj l o') T:=
 ⟨h.os,h.tape,h.output,by simpa using h.size,fun k hk hne=>(World.putObj_heap_other (by omega)).trans (h.block k hk hne)⟩
theorem grown_set {a b:World} {T:Option Nat} (h:a.grownBy b T) {p:Addr} (u:Value) (hl:a.heap.size≤p.block):a.grownBy (b.setCell p u) T:=
 ⟨h.os,h.tape,h.output,by simpa[World.setCell]using h.size,fun k hk hne=>(Below.heap_setCell _ _ _ _ (by omega)).trans (h.block k hk hne)⟩
theorem grown_row {a b c:World} {T T2:Option Nat} (h:a.grownBy b T) (k:b.grownBy c T2) (h2:∀t,T2=some t→a.heap.size≤t):a.grownBy c T:=
 ⟨k.os.trans h.os,k.tape.trans h.tape,k.output.trans h.output,Nat.le_trans h.size k.size,fun i hi hne=>(k.block i (Nat.lt_of_lt_of_le hi h.size) (fun e=>by have:=h2 i e.symm;omega)).trans (h.block i hi hne)⟩
section
variable {W0:World} {N:FuncId} {caps:Array Value} {T:Option Nat} {I:Nat→World→Prop} {r:Nat→Option Ar×Int} {q:Ar} {gl i S:Nat} {tv:Value}
theorem JnI.abs (H:JnH W0 N caps T I r q) (hg:W0.heap.size+4≤gl) (hS:gl<S):Abs2 S (JnI W0 T I r gl tv i) where
 own:=fun A A' h hb=>by
  obtain⟨v,rs,qs,h1,h2,h3,h4⟩:=h.row
  exact⟨⟨v,rs,qs,boxed_bel h1 hb,h2.below hb,h3,h4⟩,boxed_bel h.tl hb,h.rs.below hb h.rs.lt,boxed_bel h.er hb,H.stb _ _ _ h.inv (own2_below hb h.gr.size),grown_trans h.gr (grown_no hb)⟩
 put:=fun A l o o' h hl ho hc=>by
  obtain⟨v,rs,qs,h1,h2,h3,h4⟩:=h.row
  exact⟨⟨v,rs,qs,put_boxed h1 _ (by omega),h2.put _ ho hc,h3,h4⟩,put_boxed h.tl _ (by omega),(World.putObj_heap_other (by omega)).trans h.rs,put_boxed h.er _ (by omega),H.stb _ _ _ h.inv (own2_put _ (by omega) ho hc),grown_put h.gr _ (by omega)⟩
theorem JnX.abs {n:Nat} (hS:W0.heap.size+4≤S):Abs2 S (JnX W0 T r n) where
 own:=fun A A' h hb=>by
  obtain⟨k,h1,h2,h3⟩:=h.out
  exact⟨⟨k,h1,h2.below hb h2.lt,boxed_bel h3 hb⟩,grown_trans h.gr (grown_no hb)⟩
 put:=fun A l o o' h hl ho hc=>by
  obtain⟨k,h1,h2,h3⟩:=h.out
  exact⟨⟨k,h1,(World.putObj_heap_other (by omega)).trans h2,put_boxed h3 _ (by omega)⟩,grown_put h.gr _ (by omega)⟩
theorem range_cut {i n:Nat} (h:i<n):∃b,List.range n=List.range i++i::b:=by
 obtain⟨m,rfl⟩:∃m,n=i+(m+1):=⟨n-i-1,by omega⟩
 rw[List.range_add,List.range_succ_eq_map]
 exact⟨_,by rw[List.map_cons,Nat.add_zero]⟩
theorem keeps_T {Y w5:World} (H:JnH W0 N caps T I r q) {j:Nat} (hI:I j Y) (hg:Y.grownBy w5 T):KeepsOthers Y w5:=KeepsOthers.of_grownBy hg fun t o e ho=>(H.soft _ _ hI t e).2 o ho
theorem soft_T {Y w5:World} (H:JnH W0 N caps T I r q) {j:Nat} (hI:I j Y) (hg:Y.grownBy w5 T):Soft Y w5:=soft_grown hg fun t e=>(H.soft _ _ hI t e).1
theorem boxed_T {Y w5:World} (H:JnH W0 N caps T I r q) (hg:Y.grownBy w5 T) {g:Nat} {t:TypeId} {v:Value} (h:Boxed Y g t v) (h2:W0.heap.size≤g):Boxed w5 g t v:=h.kept hg fun e=>by have:=H.low _ e.symm;omega
theorem bx_T {Y w5:World} (H:JnH W0 N caps T I r q) (hg:Y.grownBy w5 T) {g n c m d:Nat} {a b:Option Addr} (h:Bx Y g a n c b m d) (h2:W0.heap.size≤g):Bx w5 g a n c b m d:=(hg.block g h.lt fun e=>by have:=H.low _ e.symm;omega).trans h
theorem lr_T {Y w5:World} (H:JnH W0 N caps T I r q) {j:Nat} (hI:I j Y) (hg:Y.grownBy w5 T) {B:Nat} {v:Value} {rs:List Rc} {qs:List Ar} (h:Lr Y B v rs qs) (h2:W0.heap.size≤B):Lr w5 B v rs qs:=by
 refine h.kept hg (fun t e=>(H.soft _ _ hI t e).1) ?_
 cases e:v.ownBlock with
 |none=>exact .inl rfl
 |some k=>exact .inr fun e2=>by have:=H.low _ e2.symm;have:=(h.own.lt k e).1;omega
theorem JnI.left {Y w5:World} {n:Nat} (H:JnH W0 N caps T I r q) (h:JnI W0 T I r gl tv i Y) (hi:i<n) (hgT:Y.grownBy w5 T) {k:Int} (hr:r i=(none,k)) (o:Obj):
 KeepsOthers Y ((((w5.alloc o).setCell ⟨W0.heap.size+2,0,none⟩ (.slice none 0 0)).setCell ⟨W0.heap.size+2,1,none⟩ (.slice none 0 0)).setCell ⟨W0.heap.size+3,0,none⟩ (.int .i64 k))∧
 JnX W0 T r n ((((w5.alloc o).setCell ⟨W0.heap.size+2,0,none⟩ (.slice none 0 0)).setCell ⟨W0.heap.size+2,1,none⟩ (.slice none 0 0)).setCell ⟨W0.heap.size+3,0,none⟩ (.int .i64 k)):=by
 obtain⟨v,rs,qs,h1,h2,h3,h4⟩:=h.row
 have hR:=(bx_T H hgT h.rs (by omega)).alloc o
 have hE:=(boxed_T H hgT h.er (by omega)).alloc o
 have hE2:Boxed (((w5.alloc o).setCell ⟨W0.heap.size+2,0,none⟩ (.slice none 0 0)).setCell ⟨W0.heap.size+2,1,none⟩ (.slice none 0 0)) (W0.heap.size+3) 28 (.int .i64 0):=((Below.heap_setCell _ _ _ _ (by simp)).trans (Below.heap_setCell _ _ _ _ (by simp))).trans hE
 refine⟨((((keeps_T H h.inv hgT).trans (KeepsOthers.alloc _ _)).trans (KeepsOthers.setCell _ _ _)).trans (KeepsOthers.setCell _ _ _)).trans (KeepsOthers.setCell _ _ _),⟨⟨k,?_,(hR.set none 0 0 none 0 0).setOther (by simp) _,hE2.set _⟩,?_⟩⟩
 · obtain⟨b,hb⟩:=range_cut hi
   rw[hb];exact runL_bad h4 hr
 · exact grown_set (grown_set (grown_set (grown_trans (grown_trans h.gr hgT) (World.grownBy_alloc _ _ _)) (p:=⟨W0.heap.size+2,0,none⟩) _ (by simp)) (p:=⟨W0.heap.size+2,1,none⟩) _ (by simp)) (p:=⟨W0.heap.size+3,0,none⟩) _ (by simp)
theorem JnI.next {Y w5 w8:World} (H:JnH W0 N caps T I r q) (h:JnI W0 T I r gl tv i Y) (hg:W0.heap.size+4≤gl) (hgT:Y.grownBy w5 T) (hI:I (i+1) w5) {v v':Value} {rs:List Rc} {qs:List Ar}
 (h1:Boxed Y gl 59 v) (h2:Lr Y (gl+2) v rs qs) (h3:qs.length=i) (h4:runL r (List.range i)=(some qs,0)) {y:Ar} (hy:r i=(some y,0)) {x:Rc} (hvl:VlR w5 x y) (o6 o7:Obj)
 (hgr:((w5.alloc o6).alloc o7).grownBy w8 v.ownBlock) (hown:w8.ownsRow (gl+2) 25 2 v' (rs.length+1) (rcs rs++x.vs)) (hso:∀k,v'.ownBlock=some k→NoData w8 k):
 Boxed w8 gl 59 v∧KeepsOthers Y (w8.setCell ⟨gl,0,none⟩ v')∧KpI (gl+1) Y (w8.setCell ⟨gl,0,none⟩ v')∧JnI W0 T I r gl tv (i+1) (w8.setCell ⟨gl,0,none⟩ v'):=by
 have hb7:Below w5.heap.size w5 ((w5.alloc o6).alloc o7):=((Below.refl _ _).alloc (Nat.le_refl _) _).alloc (by simp) _
 have hL7:=(lr_T H h.inv hgT h2 (by omega)).below hb7
 have hrow:∀k,v.ownBlock=some k→gl+2≤k∧NoData ((w5.alloc o6).alloc o7) k:=fun k e=>⟨(h2.own.lt k e).1,hL7.soft k e⟩
 have hb8:∀{g:Nat} {t:TypeId} {u:Value},Boxed Y g t u→W0.heap.size≤g→g<gl+2→Boxed w8 g t u:=fun hu ha hb=>(boxed_bel (boxed_T H hgT hu ha) hb7).kept hgr fun e=>by have:=(hrow _ e.symm).1;omega
 have hv8:=hb8 h1 (by omega) (by omega)
 have hs8:Soft Y w8:=((soft_T H h.inv hgT).trans (below_soft hb7 (Nat.le_refl _))).trans (soft_grown hgr fun t e=>(hrow t e).2)
 have hnd:NoData w8 gl:=nodata_boxed hv8 (by
  obtain⟨a,c,e,_,_⟩:=h2.form
  rw[e];exact softV_slice _ _ _)
 have hsZ:=hs8.trans (soft_set (p:=⟨gl,0,none⟩) v' hnd)
 have hne:∀k,v'.ownBlock=some k→k≠gl:=fun k e=>by have:=(hown.lt k e).1;omega
 have hX:∀{g:Nat} {t:TypeId} {u:Value},Boxed Y g t u→W0.heap.size≤g→g<gl→Boxed (w8.setCell ⟨gl,0,none⟩ v') g t u:=fun hu ha hb=>(Below.heap_setCell _ ⟨gl,0,none⟩ _ _ (by show _≠gl;omega)).trans (hb8 hu ha (by omega))
 have hlow:∀k,k<gl+2→k≠gl→((w8.setCell ⟨gl,0,none⟩ v').heap[k]?=w5.heap[k]?∨w5.heap.size≤k):=fun k hk hne=>by
  by_cases hlt:k<w5.heap.size
  · refine .inl ?_
    rw[Below.heap_setCell _ ⟨gl,0,none⟩ _ _ hne,hgr.block k (Nat.lt_of_lt_of_le hlt hb7.size) (fun e=>by have:=(hrow k e.symm).1;omega),hb7.block k hlt]
  · exact .inr (by omega)
 refine⟨hv8,?_,⟨hsZ,fun hlt=> ?_⟩,?_⟩
 · refine(((keeps_T H h.inv hgT).trans (keeps_below hb7)).trans (KeepsOthers.of_grownBy hgr fun j o e ho=> ?_)).trans (KeepsOthers.setCell _ _ _)
   rcases hL7.own.2 with⟨rfl,_⟩|⟨g,cap,cur,rfl,_,hgb,_⟩
   · simp[Value.ownBlock]at e
   · obtain rfl:g=j:=by simpa[Value.ownBlock]using e
     rw[hgb]at ho;cases ho;rfl
 · rcases hlow (gl+1) (by omega) (by omega)with e|e
   · exact e.trans (hgT.block _ hlt fun e=>by have:=H.low _ e.symm;omega)
   · have:=hgT.size;omega
 · have hg5:=grown_trans h.gr hgT
   have hvl':=fun z (hz:Soft w5 z)=>(show VlR z x y from Vl.soft hvl hz)
   have hs5:Soft w5 (w8.setCell ⟨gl,0,none⟩ v'):=((below_soft hb7 (Nat.le_refl _)).trans (soft_grown hgr fun t e=>(hrow t e).2)).trans (soft_set (p:=⟨gl,0,none⟩) v' hnd)
   refine⟨⟨v',rs++[x],qs++[y],hv8.set v',⟨?_,?_,by simp[h2.len],?_⟩,by simp[h3],?_⟩,hX h.tl (by omega) (by omega),?_,hX h.er (by omega) (by omega),?_,?_⟩
   · rw[rcs_snoc,List.length_append]
     exact hown.kept (grownBy_setCell' w8 gl v') (by
      cases e:v'.ownBlock with
      |none=>exact .inl rfl
      |some k=>exact .inr fun e2=>hne k e (by injection e2))
   · intro k e
     exact(hso k e).same (Below.heap_setCell _ ⟨gl,0,none⟩ _ _ (hne k e))
   · intro j hj hj2
     by_cases hlt:j<rs.length
     · rw[List.getElem_append_left hlt,List.getElem_append_left (by rw[←h2.len];exact hlt)]
       exact Vl.soft (h2.at_ j hlt (by rw[←h2.len];exact hlt)) hsZ
     · have e1:j=rs.length:=by rw[List.length_append]at hj;simp at hj;omega
       subst e1
       have e2:(qs++[y])[rs.length]=y:=by
        rw[List.getElem_append_right (by rw[h2.len];exact Nat.le_refl _)]
        simp
       rw[e2,List.getElem_append_right (Nat.le_refl _)]
       simpa using hvl' _ hs5
   · rw[List.range_succ]
     exact runL_snoc h4 hy
   · refine(Below.heap_setCell _ ⟨gl,0,none⟩ _ _ (by show _≠gl;omega)).trans ?_
     exact(hgr.block _ (Nat.lt_of_lt_of_le (bx_T H hgT h.rs (by omega)).lt hb7.size) (fun e=>by have:=(hrow _ e.symm).1;omega)).trans ((bx_T H hgT h.rs (by omega)).below hb7 (bx_T H hgT h.rs (by omega)).lt)
   · refine H.stb _ _ _ hI ⟨?_,?_,?_,hs5,fun k hk=> ?_⟩
     · exact hgr.os
     · exact hgr.tape
     · exact hgr.output
     · rcases hlow k (by omega) (by omega)with e|e
       · exact e
       · have:=hg5.size;omega
   · refine grown_set (grown_row (grown_trans hg5 (grown_no hb7)) hgr fun t e=>by have:=(hrow t e).1;omega) _ (by show _≤gl;omega)
theorem infoVal:(Tryz.prog.info? 25).map (fun i=>(i.zero,i.size,i.bytes))=some (some (.agg #[.slice none 0 0,.slice none 0 0]),2,48):=by kernel_rfl
theorem sizeVal (w:World):(Go.sizeOf 25).run Tryz.prog w=.ok 2 w:=by
 obtain⟨i0,hi,_,hz1,_⟩:=info_parts infoVal
 simp[Go.sizeOf,typeInfo,hi,hz1]
theorem run_hi {T e:TypeId} {sz:Nat} (ht:Tryz.prog.underlying T=some (.slice e)) (hs:∀w,(Go.sizeOf e).run Tryz.prog w=.ok sz w) (a:Option Addr) (n c:Nat) (ha:a=none∨∃g,a=some ⟨g,0,none⟩) (h2:n≤c) (w:World):
 (Instr.slice T (.slice a n c) none (some (.int .i64 (n:Int))) none).run Tryz.prog w=.ok (.slice a n c) w:=by
 have e:a.map (fun x=>x.add 0)=a:=by
  rcases ha with rfl|⟨g,rfl⟩
  · rfl
  · show some ((⟨g,0,none⟩:Addr).add 0)=_
    rw[Lib.add_plain]
 simp[Instr.slice,Instr.sliceBounds,Instr.sliceBound,run_underlying ht,hs,asIntOf,h2,e]
theorem cells_two {w:World} {g n c m d:Nat} {a b:Option Addr} (h:Bx w g a n c b m d):∀(j:Nat) (u:Value),([.slice a n c,.slice b m d]:List Value)[j]?=some u→w.cell? ((⟨g,0,none⟩:Addr).add j)=some u
 | 0,u,e=>by
   injection e with e
   subst e
   rw[Lib.add_plain]
   exact h.c0
 | 1,u,e=>by
   injection e with e
   subst e
   rw[Lib.add_plain]
   exact h.c1
 |j+2,u,e=>by cases e
theorem opIn_round {l n:Nat} {P:Program} {ops:Array Oper} {Q:Exit→Act→World→Prop} {i:Nat} {K:Act→World→Prop} {a:Act} {w:World} (hd:∀(j:Nat) (o:Oper),ops[j]?=some o→∀c,o.op≠Op.defer c)
 (h:wpOpIn Fence.wide n P ops Q i K a w):wpOpIn (Fence.wide.inRound l) n P ops Q i K a w:=by
 unfold wpOpIn at*
 cases ho:ops[i]? with
 |none=>rw[ho]at h;exact h
 |some o=>
  rw[ho]at h
  simp only at h ⊢
  split
  · rename_i hw
    rw[if_pos hw]at h
    unfold Oper.wpIn at*
    refine⟨h.1,?_⟩
    have h2:=h.2
    rw[Oper.semAt_plain _ _ _ (hd i o ho)]at h2 ⊢
    generalize (execOp a.eval o).run P w=r at*
    cases r with
    |ok x w'=>
     cases x<;>simp only[Oper.uponIn]at h2 ⊢<;>first
      |exact h2
      |exact⟨h2.1,CallsIn.inRound l h2.2⟩
    |halt x w'=>cases x<;>simp only[Oper.uponIn]at h2 ⊢<;>exact h2
  · rename_i hw
    rw[if_neg hw]at h
    exact h
theorem anyIn_round {l n:Nat} {P:Program} {md:Region.Mode} {ops:Array Oper} {Q:Exit→Act→World→Prop} (hd:∀(j:Nat) (o:Oper),ops[j]?=some o→∀c,o.op≠Op.defer c):
 ∀{fuel:Nat} {listed:Array Bool} {a:Act} {w:World},wpAnyIn Fence.wide n P md ops Q fuel listed a w→wpAnyIn (Fence.wide.inRound l) n P md ops Q fuel listed a w
 | 0,_,_,_,h=>h
 |fuel+1,_,_,_,h=>⟨h.1,fun i hi=>opIn_round hd (wpOpIn_mono (fun _ _ hh=>anyIn_round hd hh) (h.2 i hi))⟩
theorem step_append_softIn {F:Fence} {n:Nat} {P:Program} {ops:Array Oper} {o:Oper} {a:Act} {K:Act→World→Prop} {Q:Exit→Act→World→Prop} {E:Prop} (w:World)
 (hg:o.guard=none) (s x:Operand) (t:TypeId) (hop:o.op=Op.call {callee:=Callee.builtin Builtin.append,args:=#[s,x],argTypes:=#[t,t]})
 (base:Nat) (e:TypeId) (i:TypeInfo) (z:Value) (size bytes:Nat) (h1:P.underlying t=some (.slice e)) (h2:P.info? e=some i) (h3:i.zero=some z) (h4:i.size=size) (h5:i.bytes=bytes) (h6:z.cells.size=size) (h7:0<size)
 (v:Value) (k:Nat) (xs:List Value) (hs:a.eval s=v) (hown:w.ownsRow base e size v k xs) (hso:∀k,v.ownBlock=some k→NoData w k) (hxs:∀x∈xs,SoftV x) (hzc:∀x∈z.cells.toList,SoftV x)
 (ad:Addr) (m c:Nat) (news:List Value) (hx:a.eval x=.slice (some ad) m c) (hns:∀x∈news,SoftV x) (hm:0<m) (hn:news.length=m*size)
 (hc:∀j u,news[j]?=some u→w.cell? (ad.add j)=some u) (h1c:∀u∈news,u.oneCell'=true) (b1:k+m≤maxLen) (b2:(k+m)*bytes≤140737488355328) (b3:base≤w.heap.size)
 (hK:∀v' w',w'.ownsRow base e size v' (k+m) (xs++news)→w.grownBy w' v.ownBlock→(∀k,v'.ownBlock=some k→NoData w' k)→K (a.put o.dst v') w'):
 if Region.wanted o (yielded ops a.tmps)=true then Oper.wpIn F n P o a w K Q else E:=by
 have hw:Region.wanted o (yielded ops a.tmps)=true:=by simp[Region.wanted,hg]
 rw[if_pos hw]
 obtain⟨v',w',hrun,r1,r2,r3⟩:=run_append_soft (P:=P) w base t o.type e i z size bytes h1 h2 h3 h4 h5 h6 h7 v k xs hown hso hxs hzc ad m c news hns hm hn hc h1c b1 b2 b3
 unfold Oper.wpIn
 refine⟨?_,?_⟩
 · simp[Oper.about,hop,resolve,Target.leads,Sem.run_pure]
 · rw[Oper.semAt_plain F _ _ (by rw[hop];intro c hc';cases hc')]
   simp[execOp,hop,resolve,invoke,builtin,hs,hx,hrun,Result.andThen]
   exact hK v' w' r1 r2 r3
theorem wpIn_one {F:Fence} {n:Nat} {P:Program} {c:Code} {Q:Exit→Act→World→Prop} {a A:Act} {w V:World} (h:c.wpIn F n P (fun e a' w'=>e=.normal∧a'=A∧w'=V) a w) (hk:Q .normal A V):c.wpIn F n P Q a w:=
 wpIn_mono h (by rintro e a w ⟨rfl,rfl,rfl⟩;exact hk)
def jnW (W:World) (v:Array Value) (tv:Value):World:=(((W.alloc (.cells v 25)).alloc (.cells #[tv] 57)).alloc (.cells #[.slice none 0 0,.slice none 0 0] 25)).alloc (.cells #[.int .i64 0] 28)
structure JnB (g:Nat) (v:Array Value) (tv:Value) (W:World):Prop where
 v:W.heap[g]?=some (.cells v 25 (0,0))
 tl:Boxed W (g+1) 57 tv
 rs:Bx W (g+2) none 0 0 none 0 0
 er:Boxed W (g+3) 28 (.int .i64 0)
theorem JnB.below {g:Nat} {v:Array Value} {tv:Value} {W W':World} (h:JnB g v tv W) (hb:Below W.heap.size W W'):JnB g v tv W':=by
 have l:=h.er.lt
 exact⟨(hb.block _ (by omega)).trans h.v,(hb.block _ (by omega)).trans h.tl,(hb.block _ (by omega)).trans h.rs,(hb.block _ (by omega)).trans h.er⟩
theorem jnW_is (W:World) (v:Array Value) (tv:Value):JnB W.heap.size v tv (jnW W v tv)∧Below W.heap.size W (jnW W v tv):=by
 unfold jnW
 obtain⟨h1,h2,hb⟩:=rows2 W (.cells v 25) (.cells #[tv] 57)
 have s3:((W.alloc (.cells v 25)).alloc (.cells #[tv] 57)).heap.size=W.heap.size+2:=by simp
 generalize (W.alloc (.cells v 25)).alloc (.cells #[tv] 57)=w3 at*
 obtain⟨h4,h5,hb2⟩:=rows2 w3 (.cells #[.slice none 0 0,.slice none 0 0] 25) (.cells #[.int .i64 0] 28)
 rw[s3]at h4 h5
 exact⟨⟨(hb2.block _ (by omega)).trans h1,(hb2.block _ (by omega)).trans h2,h4,h5⟩,hb.trans (hb2.mono (by omega))⟩
theorem jo_head {qs:List Ar} {z:Ar} {e:Int} (h:joA qs=(some z,e)):∃s,z.1=(qs.length:Int)::s:=by
 unfold joA at h
 cases qs with
 |nil=>simp at h
 |cons q r=>
  simp only at h
  split at h
  · cases h
  · split at h
    · cases h
    · injection h with h1 h2
      injection h1 with h1
      rw[←h1]
      exact⟨_,rfl⟩
theorem jn_told {w7:World} {g D:Nat} {k k0:Int} (hR:Bx w7 g none 0 0 none 0 0) (hE:Boxed w7 (g+1) 28 (.int .i64 k0)) (hd:w7.heap[D]?=some (.deferred (some []))) (hD:g+1<D) (a b:Option Addr) (n c m d:Nat):
 Bx ((((w7.setCell ⟨g,0,none⟩ (.slice a n c)).setCell ⟨g,1,none⟩ (.slice b m d)).setCell ⟨g+1,0,none⟩ (.int .i64 k)).putObj D (.deferred none)) g a n c b m d
 ∧Boxed ((((w7.setCell ⟨g,0,none⟩ (.slice a n c)).setCell ⟨g,1,none⟩ (.slice b m d)).setCell ⟨g+1,0,none⟩ (.int .i64 k)).putObj D (.deferred none)) (g+1) 28 (.int .i64 k)
 ∧(((w7.setCell ⟨g,0,none⟩ (.slice a n c)).setCell ⟨g,1,none⟩ (.slice b m d)).setCell ⟨g+1,0,none⟩ (.int .i64 k)).heap[D]?=some (.deferred (some []))
 ∧(k=k0→∀(a':Option Addr) (n':Nat) (b':Option Addr) (m':Nat) (l:List Int) (es:List ByteArray),Vl w7 a' n' b' m' l es→Vl ((((w7.setCell ⟨g,0,none⟩ (.slice a n c)).setCell ⟨g,1,none⟩ (.slice b m d)).setCell ⟨g+1,0,none⟩ (.int .i64 k)).putObj D (.deferred none)) a' n' b' m' l es)
 ∧(∀(W0:World) (T:Option Nat),W0.grownBy w7 T→W0.heap.size≤g→W0.grownBy ((((w7.setCell ⟨g,0,none⟩ (.slice a n c)).setCell ⟨g,1,none⟩ (.slice b m d)).setCell ⟨g+1,0,none⟩ (.int .i64 k)).putObj D (.deferred none)) T):=by
 have hE2:Boxed ((w7.setCell ⟨g,0,none⟩ (.slice a n c)).setCell ⟨g,1,none⟩ (.slice b m d)) (g+1) 28 (.int .i64 k0):=((Below.heap_setCell _ _ _ _ (by simp)).trans (Below.heap_setCell _ _ _ _ (by simp))).trans hE
 have hd1:(((w7.setCell ⟨g,0,none⟩ (.slice a n c)).setCell ⟨g,1,none⟩ (.slice b m d)).setCell ⟨g+1,0,none⟩ (.int .i64 k)).heap[D]?=some (.deferred (some [])):=
  ((Below.heap_setCell _ _ _ _ (by simp;omega)).trans ((Below.heap_setCell _ _ _ _ (by simp;omega)).trans (Below.heap_setCell _ _ _ _ (by simp;omega)))).trans hd
 refine⟨(World.putObj_heap_other (by omega)).trans ((hR.set a n c b m d).setOther (by simp) _),put_boxed (hE2.set _) _ (by omega),hd1,?_,?_⟩
 · rintro rfl a' n' b' m' l es hv
   have h1:=hR.sl hv.s (.slice a n c) (.slice b m d)
   have h2:=hR.st hv.t (.slice a n c) (.slice b m d)
   exact Vl.soft ⟨h1.again hE2.cell,h2.notext hE2.cell (fun s e=>by cases e),hv.mm⟩ (soft_put _ hd1 rfl)
 · intro W0 T hg h0
   exact grown_put (grown_set (grown_set (grown_set hg (p:=⟨g,0,none⟩) _ h0) (p:=⟨g,1,none⟩) _ h0) (p:=⟨g+1,0,none⟩) _ (by show _≤g+1;omega)) _ (by omega)
def jnR (q:Ar) (r:Nat→Option Ar×Int):Option Ar×Int:=if nI q.1=0 then(some q,0)else joR (runL r (List.range (nI q.1)))
theorem joined_is {a b:Option Addr} {n c m d:Nat} {l:List Int} {es:List ByteArray} (W:World) (h1:Av W a n c b m d l es (some q)) (hl:l≠[]) (hn:nI l≤4096) (H:JnH W N caps T I r q):
 Calls Tryz.prog 35 #[.agg #[.slice a n c,.slice b m d],.func (.func N) #[] caps] W (VE (jnR q r) fun w'=>W.grownBy w' T):=by
 obtain⟨hB0,hb0⟩:=jnW_is W #[.slice a n c,.slice b m d] (.func (.func N) #[] caps)
 obtain⟨n0,hn0⟩:∃k,nI l=k:=⟨_,rfl⟩
 have KM:Hid (∀w,Below W.heap.size W w→Calls Tryz.prog 22 #[.agg #[.slice a n c,.slice b m d]] w (IntEnd (n0:Nat) w)):=Lib.hid fun w hb=>by
  have:=VMany_av (h1.below hb)
  rw[mN_nI hl,hn0]at this
  exact this
 have hq1:=h1.fst
 refine(callsIn_wide (n:=9)).1 ?_
 refine callsIn_of_wp_marks Tryz.func35 rfl trivial ?_ rfl
 simp only[Tryz.ntmps35,List.size_toArray,List.length_cons,List.length_nil,Nat.reduceAdd,Nat.reduceSub,Array.replicate_succ,Array.replicate_zero,List.push_toArray,List.append_toArray,List.nil_append,List.cons_append]
 have HH:=Lib.hid H
 have HA:=Lib.hid h1
 have HQ:=Lib.hid (And.intro hq1 (And.intro hn0 hl))
 clear H h1 hq1 hl
 rw[hn0]at hn
 clear hn0
 gi_wp2
 refine⟨trivial,(callsIn_wide.2 (KM.out _ hb0)).mono ?_⟩
 rintro e w1 ⟨rfl,hq⟩
 have hB1:=hB0.below hq
 have hb1:=hb0.trans (hq.mono hb0.size)
 clear hB0 hb0 hq KM
 have v0:w1.cell? ⟨W.heap.size,0,none⟩=some (.slice a n c):=by rw[cell_of_row _ _ 0 _ _ _ hB1.v];rfl
 have v1:w1.cell? ⟨W.heap.size,1,none⟩=some (.slice b m d):=by rw[cell_of_row _ _ 1 _ _ _ hB1.v];rfl
 by_cases hz:n0=0
 · have ez:((n0:Int)==0)=true:=by rw[hz];rfl
   have r0:=hB1.rs.c0
   have r1:=hB1.rs.c1
   have f0:=hB1.rs.f 0
   have f1:=hB1.rs.f 1
   have s0:=hB1.er.cell
   have t0:=hB1.er.frozen
   subst hz
   have HB:=Lib.hid hB1
   clear hB1
   gi_wp2
   have hR:=HB.out.rs.set a n c b m d
   have hE:Boxed ((w1.setCell ⟨W.heap.size+2,0,none⟩ (.slice a n c)).setCell ⟨W.heap.size+2,1,none⟩ (.slice b m d)) (W.heap.size+3) 28 (.int .i64 0):=((Below.heap_setCell _ _ _ _ (by simp)).trans (Below.heap_setCell _ _ _ _ (by simp))).trans HB.out.er
   have hR2:=hR.setOther (p:=⟨W.heap.size+3,0,none⟩) (by simp) (.int .i64 0)
   have p0:=hR2.c0
   have p1:=hR2.c1
   have p2:=(hE.set (.int .i64 0)).cell
   refine⟨.tuple #[.agg #[.slice a n c,.slice b m d],.int .i64 0],by simp[results,Tryz.results35,Tryz.f35,go_sem,p0,p1,p2],?_⟩
   have hRR:jnR q r=(some q,0):=by
    unfold jnR
    rw[HQ.out.1,HQ.out.2.1,if_pos rfl]
   have hv1:=(HA.out.below hb1)
   rw[hRR]
   refine⟨_,_,_,_,_,_,rfl,fun q' e=> ?_,grown_set (grown_set (grown_set (grown_no hb1) (p:=⟨W.heap.size+2,0,none⟩) _ (by simp)) (p:=⟨W.heap.size+2,1,none⟩) _ (by simp)) (p:=⟨W.heap.size+3,0,none⟩) _ (by simp)⟩
   injection e with e
   subst e
   have hv2:=(Av.q hv1).v
   exact⟨(HB.out.rs.sl hv2.s _ _).again hE.cell,(HB.out.rs.st hv2.t _ _).notext hE.cell (fun s e=>by cases e),hv2.mm⟩
 · have ez:((n0:Int)==0)=false:=beq_eq_false_iff_ne.2 (by omega)
   have hlt1:=hB1.er.lt
   have hbl:Below w1.heap.size w1 (w1.alloc (.cells #[.slice none 0 0] 59)):=(Below.refl _ _).alloc (Nat.le_refl _) _
   have u0:=(hbl.cell (p:=⟨W.heap.size,0,none⟩) (by show W.heap.size<_;omega)).trans v0
   have u1:=(hbl.cell (p:=⟨W.heap.size,1,none⟩) (by show W.heap.size<_;omega)).trans v1
   have KI:=Lib.hid (items_is (.slice a n c) (.slice b m d) (w1.alloc (.cells #[.slice none 0 0] 59)))
   clear v0 v1
   gi_wp2
   refine⟨trivial,(callsIn_wide.2 KI.out).mono ?_⟩
   rintro e w' ⟨rfl,rfl⟩
   have e1:(w1.alloc (.cells #[.slice none 0 0] 59)).heap.size=w1.heap.size+1:=by simp
   rw[e1]
   obtain⟨wR,hwR⟩:∃w,w=(w1.alloc (.cells #[.slice none 0 0] 59)).alloc (.cells #[.slice a n c,.slice b m d] 25):=⟨_,rfl⟩
   rw[←hwR]
   have hbR:Below w1.heap.size w1 wR:=by rw[hwR];exact hbl.alloc (by simp) _
   have hsR:wR.heap.size=w1.heap.size+2:=by rw[hwR];simp
   have hgl:Boxed wR w1.heap.size 59 (.slice none 0 0):=by rw[hwR];exact(Boxed.new w1 _ _).alloc _
   have hgv:Bx wR (w1.heap.size+1) a n c b m d:=by
    rw[hwR]
    have:=Bx.new (w1.alloc (.cells #[.slice none 0 0] 59)) a n c b m d
    rwa [e1]at this
   clear hwR e1 u0 u1 KI hbl
   gi_wp2
   have hAR:=HA.out.below (hb1.trans (hbR.mono hb1.size))
   have hBR:=hB1.below hbR
   have hbW:=hb1.trans (hbR.mono hb1.size)
   have hI0:JnI W T I r w1.heap.size (.func (.func N) #[] caps) 0 wR:=⟨⟨_,[],[],hgl,Lr.nil _ _,rfl,rfl⟩,hBR.tl,hBR.rs,hBR.er,HH.out.stb _ _ _ HH.out.beg (own2_below hbW (Nat.le_refl _)),grown_no hbW⟩
   refine range_gives2 (N:=n0) (En:=EnI q) (Kp:=KpI (w1.heap.size+1)) rfl (by decide) rfl trivial (enters_of Tryz.func90 (by kernel_rfl) rfl)
    (items_gives 8 hgv hAR HQ.out.2.2 HQ.out.2.1) (fun _ _ _ h g=>h.trans g) (fun _ _ h=>kpI_below h) (fun _ _ _ o' hl h ho=>kpI_put o' h ho (by omega)) (fun _ _ _ h=>enI_size h)
    (JnI W T I r w1.heap.size (.func (.func N) #[] caps)) (JnX W T r n0) (fun k=>JnI.abs HH.out (by omega) (by omega)) (JnX.abs (by omega)) hI0 ?round ?done ?stop
   case round=>
    rintro y i args X hi ⟨ai,ni,ci,bi,mi,di,rfl,hav⟩ hI
    gi_wp2
    refine⟨(Below.refl _ _).alloc (Nat.le_refl _) _,fun Y hP hY=> ?_⟩
    have hbX:Below X.heap.size X (X.alloc (.cells #[.slice ai ni ci,.slice bi mi di] 25)):=(Below.refl _ _).alloc (Nat.le_refl _) _
    have hBI:Bx Y X.heap.size ai ni ci bi mi di:=(hP.block (.inr (Nat.le_refl _))).trans (Bx.new _ _ _ _ _ _ _)
    have hAI:AvQ Y ai ni ci bi mi di (itA q.1 q.2 i):=(AvQ.below hav hbX).soft hP.soft
    have KT:=HH.out.tell i Y _ _ _ _ _ _ (by rw[HQ.out.1,HQ.out.2.1];exact hi) hY.inv hAI
    have hent:=HH.out.ent
    have x0:=hBI.c0
    have x1:=hBI.c1
    have y0:=hY.tl.cell
    have HY:=Lib.hid hY
    have HI2:=Lib.hid hi
    clear hP hBI hAI hav hI hbX hY
    rcases(HH.out.told i (by rw[HQ.out.1,HQ.out.2.1];exact hi)).1 with⟨z,hr⟩|⟨k,hr,hk1,hk2⟩
    · rw[hr]at KT
      replace KT:=Lib.hid KT
      have HR:=Lib.hid hr
      clear hr hi
      gi_wp2
      refine⟨trivial,(CallsIn.inRound y (callsIn_wide.2 KT.out)).mono ?_⟩
      rintro e w5 ⟨a6,n6,c6,b6,m6,d6,rfl,hv,hgT,hI5⟩
      replace hv:=hv z rfl
      replace hI5:=hI5 (by simp)
      obtain⟨v,rs,qs,h1,h2,h3,h4⟩:=HY.out.row
      have hlen:rs.length=i:=h2.len.trans h3
      obtain⟨ar,cr,hvf,har,hle⟩:=h2.form
      have hBl:=(boxed_T HH.out hgT h1 (by omega)).alloc (.cells #[.slice a6 n6 c6,.slice b6 m6 d6] 25)
      rw[hlen]at hvf hle
      have hgl5:=hBl.cell
      rw[hvf]at hgl5
      have hfl5:=hBl.frozen
      have hBt:=Bx.new w5 a6 n6 c6 b6 m6 d6
      have t0:=hBt.c0
      have t1:=hBt.c1
      have hBl7:=hBl.alloc (.cells #[.slice a6 n6 c6,.slice b6 m6 d6] 25)
      have hBt7:=hBt.alloc (.cells #[.slice a6 n6 c6,.slice b6 m6 d6] 25)
      have hgl7:=hBl7.cell
      rw[hvf]at hgl7
      have t07:=hBt7.c0
      have t17:=hBt7.c1
      have hlt0:(i:Int)≤4096:=by have:=HI2.out;omega
      have hlt1:i≤4096:=by have:=HI2.out;omega
      have HM:=Lib.hid (show min (i:Int) 4096=(i:Int)from Int.min_eq_left hlt0)
      have hd1:decide ((i:Int)≤4096)=true:=decide_eq_true hlt0
      have hd2:decide (i≤4096)=true:=decide_eq_true hlt1
      have H5:=Lib.hid (And.intro hv (And.intro hgT (And.intro hI5 (And.intro h1 (And.intro h2 (And.intro h3 (And.intro h4 (And.intro hlen (And.intro hvf (And.intro hle har))))))))))
      clear hv hgT hI5 h1 h2 h3 h4 hlen hvf hle har hBl hBt hBl7 hBt7 x0 x1 y0 hent KT
      have hF:Fence.wide.fn 72=True:=rfl
      gi_wp2
      apply wpIn_one (V:=(w5.alloc (.cells #[.slice a6 n6 c6,.slice b6 m6 d6] 25)).drew)
      case h=>
       gi_region
       all_goals exact⟨rfl,rfl,rfl⟩
      have hcut:∀w,(Instr.slice 59 (.slice ar i cr) none (some (.int .i64 (i:Int))) none).run Tryz.prog w=.ok (.slice ar i cr) w:=run_hi Tryz.underlying59 sizeVal ar i cr H5.out.2.2.2.2.2.2.2.2.2.2 H5.out.2.2.2.2.2.2.2.2.2.1
      gi_wp2
      refine wpIn_region_any (by kernel_rfl) ?_
      refine anyIn_round (by
       intro j o hj c hc
       rcases j with _|_|_|_|_|_|_|_|_|j<;>first|(injection hj with hj;subst hj;cases hc)|(cases hj)) ?_
      change wpAnyIn _ _ _ _ _ _ _ _ _ (World.drew _)
      refine wpAnyIn_ready (rs:=[0,1,5]) (by kernel_rfl) (by simp) ?_
      refine AllReadyIn.cons rfl (fun K hK=> ?_) ?_
      · go_simp
        refine hK _ _ ?_
        clear hK K
        refine wpAnyIn_ready (rs:=[1,5]) (by kernel_rfl) (by simp) ?_
        refine AllReadyIn.cons rfl (fun K hK=> ?_) ?_
        · go_simp
          refine hK _ _ ?_
          clear hK K
          refine wpAnyIn_take (i:=2) (v:=.int .i64 (i:Int)) rfl rfl (by kernel_rfl) (by kernel_rfl) (by kernel_rfl) (fun _ _ _ h=>h) ⟨Or.inl ⟨by rfl,by intro w;go_simp⟩,fun _=>rfl⟩ ?_
          refine wpAnyIn_take (i:=3) (v:=.int .i64 (i:Int)) rfl rfl (by kernel_rfl) (by kernel_rfl) (by kernel_rfl) (fun _ _ _ h=>h) ⟨Or.inl ⟨by rfl,by intro w;go_simp;exact HM.out⟩,fun _=>rfl⟩ ?_
          refine wpAnyIn_take (i:=4) (v:=.slice ar i cr) rfl rfl (by kernel_rfl) (by kernel_rfl) (by kernel_rfl) (fun _ _ _ h=>h) ⟨Or.inl ⟨by rfl,by intro w;go_simp⟩,fun _=>rfl⟩ ?_
          refine wpAnyIn_ready (rs:=[5]) (by kernel_rfl) (by simp) ?_
          refine AllReadyIn.cons rfl (fun K hK=> ?_) ?_
          · go_simp
            refine hK _ _ ?_
            clear hK K
            refine wpAnyIn_ready (rs:=[6]) (by kernel_rfl) (by simp) ?_
            refine AllReadyIn.cons rfl (fun K hK=> ?_) ?_
            · go_simp
              refine hK _ _ ?_
              clear hK K
              obtain⟨hv,hgT,hI5,h1,h2,h3,h4,hlen,hvf,hle,har⟩:=H5.out
              subst hvf
              have hL:=(lr_T HH.out HY.out.inv hgT h2 (by omega)).below (W':=(w5.alloc (.cells #[.slice a6 n6 c6,.slice b6 m6 d6] 25)).alloc (.cells #[.slice a6 n6 c6,.slice b6 m6 d6] 25)) (((Below.refl _ _).alloc (Nat.le_refl _) _).alloc (by simp) _)
              have hN:=Bx.new (w5.alloc (.cells #[.slice a6 n6 c6,.slice b6 m6 d6] 25)) a6 n6 c6 b6 m6 d6
              rw[World.size_alloc]at hN
              have hsz:=hgT.size
              have hlt9:=h1.lt
              have hO:=hL.own
              rw[hlen]at hO
              have hgr0:=HY.out.gr.size
              obtain⟨i0,hi0,hz0,hz1',hz2'⟩:=info_parts infoVal
              refine wpAnyIn_ready (rs:=[7]) (by kernel_rfl) (by simp) (AllReadyIn.cons rfl (fun K hK=> ?_) AllReadyIn.nil)
              refine step_append_softIn _ rfl (.tmp 51) (.tmp 53) 59 rfl (w1.heap.size+2) 25 i0 (.agg #[.slice none 0 0,.slice none 0 0]) 2 48 Tryz.underlying59 hi0 hz0 hz1' hz2' rfl (by decide) (.slice ar i cr) i (rcs rs) rfl hO hL.soft (fun _ h=>rcs_soft h) zval_soft ⟨w5.heap.size+1,0,none⟩ 1 1 [.slice a6 n6 c6,.slice b6 m6 d6] rfl two_soft (by decide) rfl (cells_two hN) (by simp[Value.oneCell']) (by unfold maxLen;omega) (by omega) (by simp[World.drew];omega) ?_
              intro v' w8 hown hgr hso
              obtain⟨g',cap',rfl⟩:=ownsRow_succ hown
              obtain⟨hv1,hk2,hs2,hi2⟩:=JnI.next HH.out HY.out (by omega) hgT hI5 h1 h2 h3 h4 HR.out (x:=⟨a6,n6,c6,b6,m6,d6⟩) hv _ _ ⟨hgr.os,hgr.tape,hgr.output,hgr.size,hgr.block⟩ (by rw[hlen];exact hown) hso
              have hc1:=hv1.cell
              have hf1:=hv1.frozen
              refine hK _ _ ?_
              clear hK K
              refine wpAnyIn_ready (rs:=[8]) (by kernel_rfl) (by simp) (AllReadyIn.cons rfl (fun K hK=> ?_) AllReadyIn.nil)
              go_simp
              refine hK _ _ ?_
              refine wpAnyIn_done (by kernel_rfl) ?_ _
              exact⟨hk2,hs2,hi2⟩
            exact AllReadyIn.nil
          exact AllReadyIn.nil
        refine AllReadyIn.cons rfl (fun K hK=> ?_) ?_
        · go_simp
          refine hK _ _ ?_
          clear hK K
          refine wpAnyIn_ready (rs:=[1,6]) (by kernel_rfl) (by simp) ?_
          refine AllReadyIn.cons rfl (fun K hK=> ?_) ?_
          · go_simp
            refine hK _ _ ?_
            clear hK K
            refine wpAnyIn_take (i:=2) (v:=.int .i64 (i:Int)) rfl rfl (by kernel_rfl) (by kernel_rfl) (by kernel_rfl) (fun _ _ _ h=>h) ⟨Or.inl ⟨by rfl,by intro w;go_simp⟩,fun _=>rfl⟩ ?_
            refine wpAnyIn_take (i:=3) (v:=.int .i64 (i:Int)) rfl rfl (by kernel_rfl) (by kernel_rfl) (by kernel_rfl) (fun _ _ _ h=>h) ⟨Or.inl ⟨by rfl,by intro w;go_simp;exact HM.out⟩,fun _=>rfl⟩ ?_
            refine wpAnyIn_take (i:=4) (v:=.slice ar i cr) rfl rfl (by kernel_rfl) (by kernel_rfl) (by kernel_rfl) (fun _ _ _ h=>h) ⟨Or.inl ⟨by rfl,by intro w;go_simp⟩,fun _=>rfl⟩ ?_
            refine wpAnyIn_ready (rs:=[6]) (by kernel_rfl) (by simp) ?_
            refine AllReadyIn.cons rfl (fun K hK=> ?_) ?_
            · go_simp
              refine hK _ _ ?_
              clear hK K
              obtain⟨hv,hgT,hI5,h1,h2,h3,h4,hlen,hvf,hle,har⟩:=H5.out
              subst hvf
              have hL:=(lr_T HH.out HY.out.inv hgT h2 (by omega)).below (W':=(w5.alloc (.cells #[.slice a6 n6 c6,.slice b6 m6 d6] 25)).alloc (.cells #[.slice a6 n6 c6,.slice b6 m6 d6] 25)) (((Below.refl _ _).alloc (Nat.le_refl _) _).alloc (by simp) _)
              have hN:=Bx.new (w5.alloc (.cells #[.slice a6 n6 c6,.slice b6 m6 d6] 25)) a6 n6 c6 b6 m6 d6
              rw[World.size_alloc]at hN
              have hsz:=hgT.size
              have hlt9:=h1.lt
              have hO:=hL.own
              rw[hlen]at hO
              have hgr0:=HY.out.gr.size
              obtain⟨i0,hi0,hz0,hz1',hz2'⟩:=info_parts infoVal
              refine wpAnyIn_ready (rs:=[7]) (by kernel_rfl) (by simp) (AllReadyIn.cons rfl (fun K hK=> ?_) AllReadyIn.nil)
              refine step_append_softIn _ rfl (.tmp 51) (.tmp 53) 59 rfl (w1.heap.size+2) 25 i0 (.agg #[.slice none 0 0,.slice none 0 0]) 2 48 Tryz.underlying59 hi0 hz0 hz1' hz2' rfl (by decide) (.slice ar i cr) i (rcs rs) rfl hO hL.soft (fun _ h=>rcs_soft h) zval_soft ⟨w5.heap.size+1,0,none⟩ 1 1 [.slice a6 n6 c6,.slice b6 m6 d6] rfl two_soft (by decide) rfl (cells_two hN) (by simp[Value.oneCell']) (by unfold maxLen;omega) (by omega) (by simp[World.drew];omega) ?_
              intro v' w8 hown hgr hso
              obtain⟨g',cap',rfl⟩:=ownsRow_succ hown
              obtain⟨hv1,hk2,hs2,hi2⟩:=JnI.next HH.out HY.out (by omega) hgT hI5 h1 h2 h3 h4 HR.out (x:=⟨a6,n6,c6,b6,m6,d6⟩) hv _ _ ⟨hgr.os,hgr.tape,hgr.output,hgr.size,hgr.block⟩ (by rw[hlen];exact hown) hso
              have hc1:=hv1.cell
              have hf1:=hv1.frozen
              refine hK _ _ ?_
              clear hK K
              refine wpAnyIn_ready (rs:=[8]) (by kernel_rfl) (by simp) (AllReadyIn.cons rfl (fun K hK=> ?_) AllReadyIn.nil)
              go_simp
              refine hK _ _ ?_
              refine wpAnyIn_done (by kernel_rfl) ?_ _
              exact⟨hk2,hs2,hi2⟩
            exact AllReadyIn.nil
          refine AllReadyIn.cons rfl (fun K hK=> ?_) ?_
          · go_simp
            refine hK _ _ ?_
            clear hK K
            refine wpAnyIn_ready (rs:=[1]) (by kernel_rfl) (by simp) ?_
            refine AllReadyIn.cons rfl (fun K hK=> ?_) ?_
            · go_simp
              refine hK _ _ ?_
              clear hK K
              refine wpAnyIn_take (i:=2) (v:=.int .i64 (i:Int)) rfl rfl (by kernel_rfl) (by kernel_rfl) (by kernel_rfl) (fun _ _ _ h=>h) ⟨Or.inl ⟨by rfl,by intro w;go_simp⟩,fun _=>rfl⟩ ?_
              refine wpAnyIn_take (i:=3) (v:=.int .i64 (i:Int)) rfl rfl (by kernel_rfl) (by kernel_rfl) (by kernel_rfl) (fun _ _ _ h=>h) ⟨Or.inl ⟨by rfl,by intro w;go_simp;exact HM.out⟩,fun _=>rfl⟩ ?_
              refine wpAnyIn_take (i:=4) (v:=.slice ar i cr) rfl rfl (by kernel_rfl) (by kernel_rfl) (by kernel_rfl) (fun _ _ _ h=>h) ⟨Or.inl ⟨by rfl,by intro w;go_simp⟩,fun _=>rfl⟩ ?_
              obtain⟨hv,hgT,hI5,h1,h2,h3,h4,hlen,hvf,hle,har⟩:=H5.out
              subst hvf
              have hL:=(lr_T HH.out HY.out.inv hgT h2 (by omega)).below (W':=(w5.alloc (.cells #[.slice a6 n6 c6,.slice b6 m6 d6] 25)).alloc (.cells #[.slice a6 n6 c6,.slice b6 m6 d6] 25)) (((Below.refl _ _).alloc (Nat.le_refl _) _).alloc (by simp) _)
              have hN:=Bx.new (w5.alloc (.cells #[.slice a6 n6 c6,.slice b6 m6 d6] 25)) a6 n6 c6 b6 m6 d6
              rw[World.size_alloc]at hN
              have hsz:=hgT.size
              have hlt9:=h1.lt
              have hO:=hL.own
              rw[hlen]at hO
              have hgr0:=HY.out.gr.size
              obtain⟨i0,hi0,hz0,hz1',hz2'⟩:=info_parts infoVal
              refine wpAnyIn_ready (rs:=[7]) (by kernel_rfl) (by simp) (AllReadyIn.cons rfl (fun K hK=> ?_) AllReadyIn.nil)
              refine step_append_softIn _ rfl (.tmp 51) (.tmp 53) 59 rfl (w1.heap.size+2) 25 i0 (.agg #[.slice none 0 0,.slice none 0 0]) 2 48 Tryz.underlying59 hi0 hz0 hz1' hz2' rfl (by decide) (.slice ar i cr) i (rcs rs) rfl hO hL.soft (fun _ h=>rcs_soft h) zval_soft ⟨w5.heap.size+1,0,none⟩ 1 1 [.slice a6 n6 c6,.slice b6 m6 d6] rfl two_soft (by decide) rfl (cells_two hN) (by simp[Value.oneCell']) (by unfold maxLen;omega) (by omega) (by simp[World.drew];omega) ?_
              intro v' w8 hown hgr hso
              obtain⟨g',cap',rfl⟩:=ownsRow_succ hown
              obtain⟨hv1,hk2,hs2,hi2⟩:=JnI.next HH.out HY.out (by omega) hgT hI5 h1 h2 h3 h4 HR.out (x:=⟨a6,n6,c6,b6,m6,d6⟩) hv _ _ ⟨hgr.os,hgr.tape,hgr.output,hgr.size,hgr.block⟩ (by rw[hlen];exact hown) hso
              have hc1:=hv1.cell
              have hf1:=hv1.frozen
              refine hK _ _ ?_
              clear hK K
              refine wpAnyIn_ready (rs:=[8]) (by kernel_rfl) (by simp) (AllReadyIn.cons rfl (fun K hK=> ?_) AllReadyIn.nil)
              go_simp
              refine hK _ _ ?_
              refine wpAnyIn_done (by kernel_rfl) ?_ _
              exact⟨hk2,hs2,hi2⟩
            exact AllReadyIn.nil
          exact AllReadyIn.nil
        exact AllReadyIn.nil
      refine AllReadyIn.cons rfl (fun K hK=> ?_) ?_
      · go_simp
        refine hK _ _ ?_
        clear hK K
        refine wpAnyIn_take (i:=2) (v:=.int .i64 (i:Int)) rfl rfl (by kernel_rfl) (by kernel_rfl) (by kernel_rfl) (fun _ _ _ h=>h) ⟨Or.inl ⟨by rfl,by intro w;go_simp⟩,fun _=>rfl⟩ ?_
        refine wpAnyIn_take (i:=3) (v:=.int .i64 (i:Int)) rfl rfl (by kernel_rfl) (by kernel_rfl) (by kernel_rfl) (fun _ _ _ h=>h) ⟨Or.inl ⟨by rfl,by intro w;go_simp;exact HM.out⟩,fun _=>rfl⟩ ?_
        refine wpAnyIn_ready (rs:=[0,5]) (by kernel_rfl) (by simp) ?_
        refine AllReadyIn.cons rfl (fun K hK=> ?_) ?_
        · go_simp
          refine hK _ _ ?_
          clear hK K
          refine wpAnyIn_take (i:=4) (v:=.slice ar i cr) rfl rfl (by kernel_rfl) (by kernel_rfl) (by kernel_rfl) (fun _ _ _ h=>h) ⟨Or.inl ⟨by rfl,by intro w;go_simp⟩,fun _=>rfl⟩ ?_
          refine wpAnyIn_ready (rs:=[5]) (by kernel_rfl) (by simp) ?_
          refine AllReadyIn.cons rfl (fun K hK=> ?_) ?_
          · go_simp
            refine hK _ _ ?_
            clear hK K
            refine wpAnyIn_ready (rs:=[6]) (by kernel_rfl) (by simp) ?_
            refine AllReadyIn.cons rfl (fun K hK=> ?_) ?_
            · go_simp
              refine hK _ _ ?_
              clear hK K
              obtain⟨hv,hgT,hI5,h1,h2,h3,h4,hlen,hvf,hle,har⟩:=H5.out
              subst hvf
              have hL:=(lr_T HH.out HY.out.inv hgT h2 (by omega)).below (W':=(w5.alloc (.cells #[.slice a6 n6 c6,.slice b6 m6 d6] 25)).alloc (.cells #[.slice a6 n6 c6,.slice b6 m6 d6] 25)) (((Below.refl _ _).alloc (Nat.le_refl _) _).alloc (by simp) _)
              have hN:=Bx.new (w5.alloc (.cells #[.slice a6 n6 c6,.slice b6 m6 d6] 25)) a6 n6 c6 b6 m6 d6
              rw[World.size_alloc]at hN
              have hsz:=hgT.size
              have hlt9:=h1.lt
              have hO:=hL.own
              rw[hlen]at hO
              have hgr0:=HY.out.gr.size
              obtain⟨i0,hi0,hz0,hz1',hz2'⟩:=info_parts infoVal
              refine wpAnyIn_ready (rs:=[7]) (by kernel_rfl) (by simp) (AllReadyIn.cons rfl (fun K hK=> ?_) AllReadyIn.nil)
              refine step_append_softIn _ rfl (.tmp 51) (.tmp 53) 59 rfl (w1.heap.size+2) 25 i0 (.agg #[.slice none 0 0,.slice none 0 0]) 2 48 Tryz.underlying59 hi0 hz0 hz1' hz2' rfl (by decide) (.slice ar i cr) i (rcs rs) rfl hO hL.soft (fun _ h=>rcs_soft h) zval_soft ⟨w5.heap.size+1,0,none⟩ 1 1 [.slice a6 n6 c6,.slice b6 m6 d6] rfl two_soft (by decide) rfl (cells_two hN) (by simp[Value.oneCell']) (by unfold maxLen;omega) (by omega) (by simp[World.drew];omega) ?_
              intro v' w8 hown hgr hso
              obtain⟨g',cap',rfl⟩:=ownsRow_succ hown
              obtain⟨hv1,hk2,hs2,hi2⟩:=JnI.next HH.out HY.out (by omega) hgT hI5 h1 h2 h3 h4 HR.out (x:=⟨a6,n6,c6,b6,m6,d6⟩) hv _ _ ⟨hgr.os,hgr.tape,hgr.output,hgr.size,hgr.block⟩ (by rw[hlen];exact hown) hso
              have hc1:=hv1.cell
              have hf1:=hv1.frozen
              refine hK _ _ ?_
              clear hK K
              refine wpAnyIn_ready (rs:=[8]) (by kernel_rfl) (by simp) (AllReadyIn.cons rfl (fun K hK=> ?_) AllReadyIn.nil)
              go_simp
              refine hK _ _ ?_
              refine wpAnyIn_done (by kernel_rfl) ?_ _
              exact⟨hk2,hs2,hi2⟩
            exact AllReadyIn.nil
          exact AllReadyIn.nil
        refine AllReadyIn.cons rfl (fun K hK=> ?_) ?_
        · go_simp
          refine hK _ _ ?_
          clear hK K
          refine wpAnyIn_ready (rs:=[0,6]) (by kernel_rfl) (by simp) ?_
          refine AllReadyIn.cons rfl (fun K hK=> ?_) ?_
          · go_simp
            refine hK _ _ ?_
            clear hK K
            refine wpAnyIn_take (i:=4) (v:=.slice ar i cr) rfl rfl (by kernel_rfl) (by kernel_rfl) (by kernel_rfl) (fun _ _ _ h=>h) ⟨Or.inl ⟨by rfl,by intro w;go_simp⟩,fun _=>rfl⟩ ?_
            refine wpAnyIn_ready (rs:=[6]) (by kernel_rfl) (by simp) ?_
            refine AllReadyIn.cons rfl (fun K hK=> ?_) ?_
            · go_simp
              refine hK _ _ ?_
              clear hK K
              obtain⟨hv,hgT,hI5,h1,h2,h3,h4,hlen,hvf,hle,har⟩:=H5.out
              subst hvf
              have hL:=(lr_T HH.out HY.out.inv hgT h2 (by omega)).below (W':=(w5.alloc (.cells #[.slice a6 n6 c6,.slice b6 m6 d6] 25)).alloc (.cells #[.slice a6 n6 c6,.slice b6 m6 d6] 25)) (((Below.refl _ _).alloc (Nat.le_refl _) _).alloc (by simp) _)
              have hN:=Bx.new (w5.alloc (.cells #[.slice a6 n6 c6,.slice b6 m6 d6] 25)) a6 n6 c6 b6 m6 d6
              rw[World.size_alloc]at hN
              have hsz:=hgT.size
              have hlt9:=h1.lt
              have hO:=hL.own
              rw[hlen]at hO
              have hgr0:=HY.out.gr.size
              obtain⟨i0,hi0,hz0,hz1',hz2'⟩:=info_parts infoVal
              refine wpAnyIn_ready (rs:=[7]) (by kernel_rfl) (by simp) (AllReadyIn.cons rfl (fun K hK=> ?_) AllReadyIn.nil)
              refine step_append_softIn _ rfl (.tmp 51) (.tmp 53) 59 rfl (w1.heap.size+2) 25 i0 (.agg #[.slice none 0 0,.slice none 0 0]) 2 48 Tryz.underlying59 hi0 hz0 hz1' hz2' rfl (by decide) (.slice ar i cr) i (rcs rs) rfl hO hL.soft (fun _ h=>rcs_soft h) zval_soft ⟨w5.heap.size+1,0,none⟩ 1 1 [.slice a6 n6 c6,.slice b6 m6 d6] rfl two_soft (by decide) rfl (cells_two hN) (by simp[Value.oneCell']) (by unfold maxLen;omega) (by omega) (by simp[World.drew];omega) ?_
              intro v' w8 hown hgr hso
              obtain⟨g',cap',rfl⟩:=ownsRow_succ hown
              obtain⟨hv1,hk2,hs2,hi2⟩:=JnI.next HH.out HY.out (by omega) hgT hI5 h1 h2 h3 h4 HR.out (x:=⟨a6,n6,c6,b6,m6,d6⟩) hv _ _ ⟨hgr.os,hgr.tape,hgr.output,hgr.size,hgr.block⟩ (by rw[hlen];exact hown) hso
              have hc1:=hv1.cell
              have hf1:=hv1.frozen
              refine hK _ _ ?_
              clear hK K
              refine wpAnyIn_ready (rs:=[8]) (by kernel_rfl) (by simp) (AllReadyIn.cons rfl (fun K hK=> ?_) AllReadyIn.nil)
              go_simp
              refine hK _ _ ?_
              refine wpAnyIn_done (by kernel_rfl) ?_ _
              exact⟨hk2,hs2,hi2⟩
            exact AllReadyIn.nil
          refine AllReadyIn.cons rfl (fun K hK=> ?_) ?_
          · go_simp
            refine hK _ _ ?_
            clear hK K
            refine wpAnyIn_ready (rs:=[0]) (by kernel_rfl) (by simp) ?_
            refine AllReadyIn.cons rfl (fun K hK=> ?_) ?_
            · go_simp
              refine hK _ _ ?_
              clear hK K
              refine wpAnyIn_take (i:=4) (v:=.slice ar i cr) rfl rfl (by kernel_rfl) (by kernel_rfl) (by kernel_rfl) (fun _ _ _ h=>h) ⟨Or.inl ⟨by rfl,by intro w;go_simp⟩,fun _=>rfl⟩ ?_
              obtain⟨hv,hgT,hI5,h1,h2,h3,h4,hlen,hvf,hle,har⟩:=H5.out
              subst hvf
              have hL:=(lr_T HH.out HY.out.inv hgT h2 (by omega)).below (W':=(w5.alloc (.cells #[.slice a6 n6 c6,.slice b6 m6 d6] 25)).alloc (.cells #[.slice a6 n6 c6,.slice b6 m6 d6] 25)) (((Below.refl _ _).alloc (Nat.le_refl _) _).alloc (by simp) _)
              have hN:=Bx.new (w5.alloc (.cells #[.slice a6 n6 c6,.slice b6 m6 d6] 25)) a6 n6 c6 b6 m6 d6
              rw[World.size_alloc]at hN
              have hsz:=hgT.size
              have hlt9:=h1.lt
              have hO:=hL.own
              rw[hlen]at hO
              have hgr0:=HY.out.gr.size
              obtain⟨i0,hi0,hz0,hz1',hz2'⟩:=info_parts infoVal
              refine wpAnyIn_ready (rs:=[7]) (by kernel_rfl) (by simp) (AllReadyIn.cons rfl (fun K hK=> ?_) AllReadyIn.nil)
              refine step_append_softIn _ rfl (.tmp 51) (.tmp 53) 59 rfl (w1.heap.size+2) 25 i0 (.agg #[.slice none 0 0,.slice none 0 0]) 2 48 Tryz.underlying59 hi0 hz0 hz1' hz2' rfl (by decide) (.slice ar i cr) i (rcs rs) rfl hO hL.soft (fun _ h=>rcs_soft h) zval_soft ⟨w5.heap.size+1,0,none⟩ 1 1 [.slice a6 n6 c6,.slice b6 m6 d6] rfl two_soft (by decide) rfl (cells_two hN) (by simp[Value.oneCell']) (by unfold maxLen;omega) (by omega) (by simp[World.drew];omega) ?_
              intro v' w8 hown hgr hso
              obtain⟨g',cap',rfl⟩:=ownsRow_succ hown
              obtain⟨hv1,hk2,hs2,hi2⟩:=JnI.next HH.out HY.out (by omega) hgT hI5 h1 h2 h3 h4 HR.out (x:=⟨a6,n6,c6,b6,m6,d6⟩) hv _ _ ⟨hgr.os,hgr.tape,hgr.output,hgr.size,hgr.block⟩ (by rw[hlen];exact hown) hso
              have hc1:=hv1.cell
              have hf1:=hv1.frozen
              refine hK _ _ ?_
              clear hK K
              refine wpAnyIn_ready (rs:=[8]) (by kernel_rfl) (by simp) (AllReadyIn.cons rfl (fun K hK=> ?_) AllReadyIn.nil)
              go_simp
              refine hK _ _ ?_
              refine wpAnyIn_done (by kernel_rfl) ?_ _
              exact⟨hk2,hs2,hi2⟩
            exact AllReadyIn.nil
          exact AllReadyIn.nil
        exact AllReadyIn.nil
      refine AllReadyIn.cons rfl (fun K hK=> ?_) ?_
      · go_simp
        refine hK _ _ ?_
        clear hK K
        refine wpAnyIn_ready (rs:=[0,1,6]) (by kernel_rfl) (by simp) ?_
        refine AllReadyIn.cons rfl (fun K hK=> ?_) ?_
        · go_simp
          refine hK _ _ ?_
          clear hK K
          refine wpAnyIn_ready (rs:=[1,6]) (by kernel_rfl) (by simp) ?_
          refine AllReadyIn.cons rfl (fun K hK=> ?_) ?_
          · go_simp
            refine hK _ _ ?_
            clear hK K
            refine wpAnyIn_take (i:=2) (v:=.int .i64 (i:Int)) rfl rfl (by kernel_rfl) (by kernel_rfl) (by kernel_rfl) (fun _ _ _ h=>h) ⟨Or.inl ⟨by rfl,by intro w;go_simp⟩,fun _=>rfl⟩ ?_
            refine wpAnyIn_take (i:=3) (v:=.int .i64 (i:Int)) rfl rfl (by kernel_rfl) (by kernel_rfl) (by kernel_rfl) (fun _ _ _ h=>h) ⟨Or.inl ⟨by rfl,by intro w;go_simp;exact HM.out⟩,fun _=>rfl⟩ ?_
            refine wpAnyIn_take (i:=4) (v:=.slice ar i cr) rfl rfl (by kernel_rfl) (by kernel_rfl) (by kernel_rfl) (fun _ _ _ h=>h) ⟨Or.inl ⟨by rfl,by intro w;go_simp⟩,fun _=>rfl⟩ ?_
            refine wpAnyIn_ready (rs:=[6]) (by kernel_rfl) (by simp) ?_
            refine AllReadyIn.cons rfl (fun K hK=> ?_) ?_
            · go_simp
              refine hK _ _ ?_
              clear hK K
              obtain⟨hv,hgT,hI5,h1,h2,h3,h4,hlen,hvf,hle,har⟩:=H5.out
              subst hvf
              have hL:=(lr_T HH.out HY.out.inv hgT h2 (by omega)).below (W':=(w5.alloc (.cells #[.slice a6 n6 c6,.slice b6 m6 d6] 25)).alloc (.cells #[.slice a6 n6 c6,.slice b6 m6 d6] 25)) (((Below.refl _ _).alloc (Nat.le_refl _) _).alloc (by simp) _)
              have hN:=Bx.new (w5.alloc (.cells #[.slice a6 n6 c6,.slice b6 m6 d6] 25)) a6 n6 c6 b6 m6 d6
              rw[World.size_alloc]at hN
              have hsz:=hgT.size
              have hlt9:=h1.lt
              have hO:=hL.own
              rw[hlen]at hO
              have hgr0:=HY.out.gr.size
              obtain⟨i0,hi0,hz0,hz1',hz2'⟩:=info_parts infoVal
              refine wpAnyIn_ready (rs:=[7]) (by kernel_rfl) (by simp) (AllReadyIn.cons rfl (fun K hK=> ?_) AllReadyIn.nil)
              refine step_append_softIn _ rfl (.tmp 51) (.tmp 53) 59 rfl (w1.heap.size+2) 25 i0 (.agg #[.slice none 0 0,.slice none 0 0]) 2 48 Tryz.underlying59 hi0 hz0 hz1' hz2' rfl (by decide) (.slice ar i cr) i (rcs rs) rfl hO hL.soft (fun _ h=>rcs_soft h) zval_soft ⟨w5.heap.size+1,0,none⟩ 1 1 [.slice a6 n6 c6,.slice b6 m6 d6] rfl two_soft (by decide) rfl (cells_two hN) (by simp[Value.oneCell']) (by unfold maxLen;omega) (by omega) (by simp[World.drew];omega) ?_
              intro v' w8 hown hgr hso
              obtain⟨g',cap',rfl⟩:=ownsRow_succ hown
              obtain⟨hv1,hk2,hs2,hi2⟩:=JnI.next HH.out HY.out (by omega) hgT hI5 h1 h2 h3 h4 HR.out (x:=⟨a6,n6,c6,b6,m6,d6⟩) hv _ _ ⟨hgr.os,hgr.tape,hgr.output,hgr.size,hgr.block⟩ (by rw[hlen];exact hown) hso
              have hc1:=hv1.cell
              have hf1:=hv1.frozen
              refine hK _ _ ?_
              clear hK K
              refine wpAnyIn_ready (rs:=[8]) (by kernel_rfl) (by simp) (AllReadyIn.cons rfl (fun K hK=> ?_) AllReadyIn.nil)
              go_simp
              refine hK _ _ ?_
              refine wpAnyIn_done (by kernel_rfl) ?_ _
              exact⟨hk2,hs2,hi2⟩
            exact AllReadyIn.nil
          refine AllReadyIn.cons rfl (fun K hK=> ?_) ?_
          · go_simp
            refine hK _ _ ?_
            clear hK K
            refine wpAnyIn_ready (rs:=[1]) (by kernel_rfl) (by simp) ?_
            refine AllReadyIn.cons rfl (fun K hK=> ?_) ?_
            · go_simp
              refine hK _ _ ?_
              clear hK K
              refine wpAnyIn_take (i:=2) (v:=.int .i64 (i:Int)) rfl rfl (by kernel_rfl) (by kernel_rfl) (by kernel_rfl) (fun _ _ _ h=>h) ⟨Or.inl ⟨by rfl,by intro w;go_simp⟩,fun _=>rfl⟩ ?_
              refine wpAnyIn_take (i:=3) (v:=.int .i64 (i:Int)) rfl rfl (by kernel_rfl) (by kernel_rfl) (by kernel_rfl) (fun _ _ _ h=>h) ⟨Or.inl ⟨by rfl,by intro w;go_simp;exact HM.out⟩,fun _=>rfl⟩ ?_
              refine wpAnyIn_take (i:=4) (v:=.slice ar i cr) rfl rfl (by kernel_rfl) (by kernel_rfl) (by kernel_rfl) (fun _ _ _ h=>h) ⟨Or.inl ⟨by rfl,by intro w;go_simp⟩,fun _=>rfl⟩ ?_
              obtain⟨hv,hgT,hI5,h1,h2,h3,h4,hlen,hvf,hle,har⟩:=H5.out
              subst hvf
              have hL:=(lr_T HH.out HY.out.inv hgT h2 (by omega)).below (W':=(w5.alloc (.cells #[.slice a6 n6 c6,.slice b6 m6 d6] 25)).alloc (.cells #[.slice a6 n6 c6,.slice b6 m6 d6] 25)) (((Below.refl _ _).alloc (Nat.le_refl _) _).alloc (by simp) _)
              have hN:=Bx.new (w5.alloc (.cells #[.slice a6 n6 c6,.slice b6 m6 d6] 25)) a6 n6 c6 b6 m6 d6
              rw[World.size_alloc]at hN
              have hsz:=hgT.size
              have hlt9:=h1.lt
              have hO:=hL.own
              rw[hlen]at hO
              have hgr0:=HY.out.gr.size
              obtain⟨i0,hi0,hz0,hz1',hz2'⟩:=info_parts infoVal
              refine wpAnyIn_ready (rs:=[7]) (by kernel_rfl) (by simp) (AllReadyIn.cons rfl (fun K hK=> ?_) AllReadyIn.nil)
              refine step_append_softIn _ rfl (.tmp 51) (.tmp 53) 59 rfl (w1.heap.size+2) 25 i0 (.agg #[.slice none 0 0,.slice none 0 0]) 2 48 Tryz.underlying59 hi0 hz0 hz1' hz2' rfl (by decide) (.slice ar i cr) i (rcs rs) rfl hO hL.soft (fun _ h=>rcs_soft h) zval_soft ⟨w5.heap.size+1,0,none⟩ 1 1 [.slice a6 n6 c6,.slice b6 m6 d6] rfl two_soft (by decide) rfl (cells_two hN) (by simp[Value.oneCell']) (by unfold maxLen;omega) (by omega) (by simp[World.drew];omega) ?_
              intro v' w8 hown hgr hso
              obtain⟨g',cap',rfl⟩:=ownsRow_succ hown
              obtain⟨hv1,hk2,hs2,hi2⟩:=JnI.next HH.out HY.out (by omega) hgT hI5 h1 h2 h3 h4 HR.out (x:=⟨a6,n6,c6,b6,m6,d6⟩) hv _ _ ⟨hgr.os,hgr.tape,hgr.output,hgr.size,hgr.block⟩ (by rw[hlen];exact hown) hso
              have hc1:=hv1.cell
              have hf1:=hv1.frozen
              refine hK _ _ ?_
              clear hK K
              refine wpAnyIn_ready (rs:=[8]) (by kernel_rfl) (by simp) (AllReadyIn.cons rfl (fun K hK=> ?_) AllReadyIn.nil)
              go_simp
              refine hK _ _ ?_
              refine wpAnyIn_done (by kernel_rfl) ?_ _
              exact⟨hk2,hs2,hi2⟩
            exact AllReadyIn.nil
          exact AllReadyIn.nil
        refine AllReadyIn.cons rfl (fun K hK=> ?_) ?_
        · go_simp
          refine hK _ _ ?_
          clear hK K
          refine wpAnyIn_take (i:=2) (v:=.int .i64 (i:Int)) rfl rfl (by kernel_rfl) (by kernel_rfl) (by kernel_rfl) (fun _ _ _ h=>h) ⟨Or.inl ⟨by rfl,by intro w;go_simp⟩,fun _=>rfl⟩ ?_
          refine wpAnyIn_take (i:=3) (v:=.int .i64 (i:Int)) rfl rfl (by kernel_rfl) (by kernel_rfl) (by kernel_rfl) (fun _ _ _ h=>h) ⟨Or.inl ⟨by rfl,by intro w;go_simp;exact HM.out⟩,fun _=>rfl⟩ ?_
          refine wpAnyIn_ready (rs:=[0,6]) (by kernel_rfl) (by simp) ?_
          refine AllReadyIn.cons rfl (fun K hK=> ?_) ?_
          · go_simp
            refine hK _ _ ?_
            clear hK K
            refine wpAnyIn_take (i:=4) (v:=.slice ar i cr) rfl rfl (by kernel_rfl) (by kernel_rfl) (by kernel_rfl) (fun _ _ _ h=>h) ⟨Or.inl ⟨by rfl,by intro w;go_simp⟩,fun _=>rfl⟩ ?_
            refine wpAnyIn_ready (rs:=[6]) (by kernel_rfl) (by simp) ?_
            refine AllReadyIn.cons rfl (fun K hK=> ?_) ?_
            · go_simp
              refine hK _ _ ?_
              clear hK K
              obtain⟨hv,hgT,hI5,h1,h2,h3,h4,hlen,hvf,hle,har⟩:=H5.out
              subst hvf
              have hL:=(lr_T HH.out HY.out.inv hgT h2 (by omega)).below (W':=(w5.alloc (.cells #[.slice a6 n6 c6,.slice b6 m6 d6] 25)).alloc (.cells #[.slice a6 n6 c6,.slice b6 m6 d6] 25)) (((Below.refl _ _).alloc (Nat.le_refl _) _).alloc (by simp) _)
              have hN:=Bx.new (w5.alloc (.cells #[.slice a6 n6 c6,.slice b6 m6 d6] 25)) a6 n6 c6 b6 m6 d6
              rw[World.size_alloc]at hN
              have hsz:=hgT.size
              have hlt9:=h1.lt
              have hO:=hL.own
              rw[hlen]at hO
              have hgr0:=HY.out.gr.size
              obtain⟨i0,hi0,hz0,hz1',hz2'⟩:=info_parts infoVal
              refine wpAnyIn_ready (rs:=[7]) (by kernel_rfl) (by simp) (AllReadyIn.cons rfl (fun K hK=> ?_) AllReadyIn.nil)
              refine step_append_softIn _ rfl (.tmp 51) (.tmp 53) 59 rfl (w1.heap.size+2) 25 i0 (.agg #[.slice none 0 0,.slice none 0 0]) 2 48 Tryz.underlying59 hi0 hz0 hz1' hz2' rfl (by decide) (.slice ar i cr) i (rcs rs) rfl hO hL.soft (fun _ h=>rcs_soft h) zval_soft ⟨w5.heap.size+1,0,none⟩ 1 1 [.slice a6 n6 c6,.slice b6 m6 d6] rfl two_soft (by decide) rfl (cells_two hN) (by simp[Value.oneCell']) (by unfold maxLen;omega) (by omega) (by simp[World.drew];omega) ?_
              intro v' w8 hown hgr hso
              obtain⟨g',cap',rfl⟩:=ownsRow_succ hown
              obtain⟨hv1,hk2,hs2,hi2⟩:=JnI.next HH.out HY.out (by omega) hgT hI5 h1 h2 h3 h4 HR.out (x:=⟨a6,n6,c6,b6,m6,d6⟩) hv _ _ ⟨hgr.os,hgr.tape,hgr.output,hgr.size,hgr.block⟩ (by rw[hlen];exact hown) hso
              have hc1:=hv1.cell
              have hf1:=hv1.frozen
              refine hK _ _ ?_
              clear hK K
              refine wpAnyIn_ready (rs:=[8]) (by kernel_rfl) (by simp) (AllReadyIn.cons rfl (fun K hK=> ?_) AllReadyIn.nil)
              go_simp
              refine hK _ _ ?_
              refine wpAnyIn_done (by kernel_rfl) ?_ _
              exact⟨hk2,hs2,hi2⟩
            exact AllReadyIn.nil
          refine AllReadyIn.cons rfl (fun K hK=> ?_) ?_
          · go_simp
            refine hK _ _ ?_
            clear hK K
            refine wpAnyIn_ready (rs:=[0]) (by kernel_rfl) (by simp) ?_
            refine AllReadyIn.cons rfl (fun K hK=> ?_) ?_
            · go_simp
              refine hK _ _ ?_
              clear hK K
              refine wpAnyIn_take (i:=4) (v:=.slice ar i cr) rfl rfl (by kernel_rfl) (by kernel_rfl) (by kernel_rfl) (fun _ _ _ h=>h) ⟨Or.inl ⟨by rfl,by intro w;go_simp⟩,fun _=>rfl⟩ ?_
              obtain⟨hv,hgT,hI5,h1,h2,h3,h4,hlen,hvf,hle,har⟩:=H5.out
              subst hvf
              have hL:=(lr_T HH.out HY.out.inv hgT h2 (by omega)).below (W':=(w5.alloc (.cells #[.slice a6 n6 c6,.slice b6 m6 d6] 25)).alloc (.cells #[.slice a6 n6 c6,.slice b6 m6 d6] 25)) (((Below.refl _ _).alloc (Nat.le_refl _) _).alloc (by simp) _)
              have hN:=Bx.new (w5.alloc (.cells #[.slice a6 n6 c6,.slice b6 m6 d6] 25)) a6 n6 c6 b6 m6 d6
              rw[World.size_alloc]at hN
              have hsz:=hgT.size
              have hlt9:=h1.lt
              have hO:=hL.own
              rw[hlen]at hO
              have hgr0:=HY.out.gr.size
              obtain⟨i0,hi0,hz0,hz1',hz2'⟩:=info_parts infoVal
              refine wpAnyIn_ready (rs:=[7]) (by kernel_rfl) (by simp) (AllReadyIn.cons rfl (fun K hK=> ?_) AllReadyIn.nil)
              refine step_append_softIn _ rfl (.tmp 51) (.tmp 53) 59 rfl (w1.heap.size+2) 25 i0 (.agg #[.slice none 0 0,.slice none 0 0]) 2 48 Tryz.underlying59 hi0 hz0 hz1' hz2' rfl (by decide) (.slice ar i cr) i (rcs rs) rfl hO hL.soft (fun _ h=>rcs_soft h) zval_soft ⟨w5.heap.size+1,0,none⟩ 1 1 [.slice a6 n6 c6,.slice b6 m6 d6] rfl two_soft (by decide) rfl (cells_two hN) (by simp[Value.oneCell']) (by unfold maxLen;omega) (by omega) (by simp[World.drew];omega) ?_
              intro v' w8 hown hgr hso
              obtain⟨g',cap',rfl⟩:=ownsRow_succ hown
              obtain⟨hv1,hk2,hs2,hi2⟩:=JnI.next HH.out HY.out (by omega) hgT hI5 h1 h2 h3 h4 HR.out (x:=⟨a6,n6,c6,b6,m6,d6⟩) hv _ _ ⟨hgr.os,hgr.tape,hgr.output,hgr.size,hgr.block⟩ (by rw[hlen];exact hown) hso
              have hc1:=hv1.cell
              have hf1:=hv1.frozen
              refine hK _ _ ?_
              clear hK K
              refine wpAnyIn_ready (rs:=[8]) (by kernel_rfl) (by simp) (AllReadyIn.cons rfl (fun K hK=> ?_) AllReadyIn.nil)
              go_simp
              refine hK _ _ ?_
              refine wpAnyIn_done (by kernel_rfl) ?_ _
              exact⟨hk2,hs2,hi2⟩
            exact AllReadyIn.nil
          exact AllReadyIn.nil
        refine AllReadyIn.cons rfl (fun K hK=> ?_) ?_
        · go_simp
          refine hK _ _ ?_
          clear hK K
          refine wpAnyIn_ready (rs:=[0,1]) (by kernel_rfl) (by simp) ?_
          refine AllReadyIn.cons rfl (fun K hK=> ?_) ?_
          · go_simp
            refine hK _ _ ?_
            clear hK K
            refine wpAnyIn_ready (rs:=[1]) (by kernel_rfl) (by simp) ?_
            refine AllReadyIn.cons rfl (fun K hK=> ?_) ?_
            · go_simp
              refine hK _ _ ?_
              clear hK K
              refine wpAnyIn_take (i:=2) (v:=.int .i64 (i:Int)) rfl rfl (by kernel_rfl) (by kernel_rfl) (by kernel_rfl) (fun _ _ _ h=>h) ⟨Or.inl ⟨by rfl,by intro w;go_simp⟩,fun _=>rfl⟩ ?_
              refine wpAnyIn_take (i:=3) (v:=.int .i64 (i:Int)) rfl rfl (by kernel_rfl) (by kernel_rfl) (by kernel_rfl) (fun _ _ _ h=>h) ⟨Or.inl ⟨by rfl,by intro w;go_simp;exact HM.out⟩,fun _=>rfl⟩ ?_
              refine wpAnyIn_take (i:=4) (v:=.slice ar i cr) rfl rfl (by kernel_rfl) (by kernel_rfl) (by kernel_rfl) (fun _ _ _ h=>h) ⟨Or.inl ⟨by rfl,by intro w;go_simp⟩,fun _=>rfl⟩ ?_
              obtain⟨hv,hgT,hI5,h1,h2,h3,h4,hlen,hvf,hle,har⟩:=H5.out
              subst hvf
              have hL:=(lr_T HH.out HY.out.inv hgT h2 (by omega)).below (W':=(w5.alloc (.cells #[.slice a6 n6 c6,.slice b6 m6 d6] 25)).alloc (.cells #[.slice a6 n6 c6,.slice b6 m6 d6] 25)) (((Below.refl _ _).alloc (Nat.le_refl _) _).alloc (by simp) _)
              have hN:=Bx.new (w5.alloc (.cells #[.slice a6 n6 c6,.slice b6 m6 d6] 25)) a6 n6 c6 b6 m6 d6
              rw[World.size_alloc]at hN
              have hsz:=hgT.size
              have hlt9:=h1.lt
              have hO:=hL.own
              rw[hlen]at hO
              have hgr0:=HY.out.gr.size
              obtain⟨i0,hi0,hz0,hz1',hz2'⟩:=info_parts infoVal
              refine wpAnyIn_ready (rs:=[7]) (by kernel_rfl) (by simp) (AllReadyIn.cons rfl (fun K hK=> ?_) AllReadyIn.nil)
              refine step_append_softIn _ rfl (.tmp 51) (.tmp 53) 59 rfl (w1.heap.size+2) 25 i0 (.agg #[.slice none 0 0,.slice none 0 0]) 2 48 Tryz.underlying59 hi0 hz0 hz1' hz2' rfl (by decide) (.slice ar i cr) i (rcs rs) rfl hO hL.soft (fun _ h=>rcs_soft h) zval_soft ⟨w5.heap.size+1,0,none⟩ 1 1 [.slice a6 n6 c6,.slice b6 m6 d6] rfl two_soft (by decide) rfl (cells_two hN) (by simp[Value.oneCell']) (by unfold maxLen;omega) (by omega) (by simp[World.drew];omega) ?_
              intro v' w8 hown hgr hso
              obtain⟨g',cap',rfl⟩:=ownsRow_succ hown
              obtain⟨hv1,hk2,hs2,hi2⟩:=JnI.next HH.out HY.out (by omega) hgT hI5 h1 h2 h3 h4 HR.out (x:=⟨a6,n6,c6,b6,m6,d6⟩) hv _ _ ⟨hgr.os,hgr.tape,hgr.output,hgr.size,hgr.block⟩ (by rw[hlen];exact hown) hso
              have hc1:=hv1.cell
              have hf1:=hv1.frozen
              refine hK _ _ ?_
              clear hK K
              refine wpAnyIn_ready (rs:=[8]) (by kernel_rfl) (by simp) (AllReadyIn.cons rfl (fun K hK=> ?_) AllReadyIn.nil)
              go_simp
              refine hK _ _ ?_
              refine wpAnyIn_done (by kernel_rfl) ?_ _
              exact⟨hk2,hs2,hi2⟩
            exact AllReadyIn.nil
          refine AllReadyIn.cons rfl (fun K hK=> ?_) ?_
          · go_simp
            refine hK _ _ ?_
            clear hK K
            refine wpAnyIn_take (i:=2) (v:=.int .i64 (i:Int)) rfl rfl (by kernel_rfl) (by kernel_rfl) (by kernel_rfl) (fun _ _ _ h=>h) ⟨Or.inl ⟨by rfl,by intro w;go_simp⟩,fun _=>rfl⟩ ?_
            refine wpAnyIn_take (i:=3) (v:=.int .i64 (i:Int)) rfl rfl (by kernel_rfl) (by kernel_rfl) (by kernel_rfl) (fun _ _ _ h=>h) ⟨Or.inl ⟨by rfl,by intro w;go_simp;exact HM.out⟩,fun _=>rfl⟩ ?_
            refine wpAnyIn_ready (rs:=[0]) (by kernel_rfl) (by simp) ?_
            refine AllReadyIn.cons rfl (fun K hK=> ?_) ?_
            · go_simp
              refine hK _ _ ?_
              clear hK K
              refine wpAnyIn_take (i:=4) (v:=.slice ar i cr) rfl rfl (by kernel_rfl) (by kernel_rfl) (by kernel_rfl) (fun _ _ _ h=>h) ⟨Or.inl ⟨by rfl,by intro w;go_simp⟩,fun _=>rfl⟩ ?_
              obtain⟨hv,hgT,hI5,h1,h2,h3,h4,hlen,hvf,hle,har⟩:=H5.out
              subst hvf
              have hL:=(lr_T HH.out HY.out.inv hgT h2 (by omega)).below (W':=(w5.alloc (.cells #[.slice a6 n6 c6,.slice b6 m6 d6] 25)).alloc (.cells #[.slice a6 n6 c6,.slice b6 m6 d6] 25)) (((Below.refl _ _).alloc (Nat.le_refl _) _).alloc (by simp) _)
              have hN:=Bx.new (w5.alloc (.cells #[.slice a6 n6 c6,.slice b6 m6 d6] 25)) a6 n6 c6 b6 m6 d6
              rw[World.size_alloc]at hN
              have hsz:=hgT.size
              have hlt9:=h1.lt
              have hO:=hL.own
              rw[hlen]at hO
              have hgr0:=HY.out.gr.size
              obtain⟨i0,hi0,hz0,hz1',hz2'⟩:=info_parts infoVal
              refine wpAnyIn_ready (rs:=[7]) (by kernel_rfl) (by simp) (AllReadyIn.cons rfl (fun K hK=> ?_) AllReadyIn.nil)
              refine step_append_softIn _ rfl (.tmp 51) (.tmp 53) 59 rfl (w1.heap.size+2) 25 i0 (.agg #[.slice none 0 0,.slice none 0 0]) 2 48 Tryz.underlying59 hi0 hz0 hz1' hz2' rfl (by decide) (.slice ar i cr) i (rcs rs) rfl hO hL.soft (fun _ h=>rcs_soft h) zval_soft ⟨w5.heap.size+1,0,none⟩ 1 1 [.slice a6 n6 c6,.slice b6 m6 d6] rfl two_soft (by decide) rfl (cells_two hN) (by simp[Value.oneCell']) (by unfold maxLen;omega) (by omega) (by simp[World.drew];omega) ?_
              intro v' w8 hown hgr hso
              obtain⟨g',cap',rfl⟩:=ownsRow_succ hown
              obtain⟨hv1,hk2,hs2,hi2⟩:=JnI.next HH.out HY.out (by omega) hgT hI5 h1 h2 h3 h4 HR.out (x:=⟨a6,n6,c6,b6,m6,d6⟩) hv _ _ ⟨hgr.os,hgr.tape,hgr.output,hgr.size,hgr.block⟩ (by rw[hlen];exact hown) hso
              have hc1:=hv1.cell
              have hf1:=hv1.frozen
              refine hK _ _ ?_
              clear hK K
              refine wpAnyIn_ready (rs:=[8]) (by kernel_rfl) (by simp) (AllReadyIn.cons rfl (fun K hK=> ?_) AllReadyIn.nil)
              go_simp
              refine hK _ _ ?_
              refine wpAnyIn_done (by kernel_rfl) ?_ _
              exact⟨hk2,hs2,hi2⟩
            exact AllReadyIn.nil
          exact AllReadyIn.nil
        exact AllReadyIn.nil
      exact AllReadyIn.nil
    · rw[hr]at KT
      replace KT:=Lib.hid KT
      have HR:=Lib.hid hr
      clear hr hi
      have hk0:¬k=0:=by omega
      gi_wp2
      refine⟨trivial,(CallsIn.inRound y (callsIn_wide.2 KT.out)).mono ?_⟩
      rintro e w5 ⟨a6,n6,c6,b6,m6,d6,rfl,hv,hgT,hI5⟩
      clear hv hI5
      have hR5:=(bx_T HH.out hgT HY.out.rs (by omega)).alloc (.cells #[.slice a6 n6 c6,.slice b6 m6 d6] 25)
      have hE5:=(boxed_T HH.out hgT HY.out.er (by omega)).alloc (.cells #[.slice a6 n6 c6,.slice b6 m6 d6] 25)
      have r0:=hR5.c0
      have r1:=hR5.c1
      have f0:=hR5.f 0
      have f1:=hR5.f 1
      have s0:=hE5.cell
      have u0:=hE5.frozen
      have HG:=Lib.hid hgT
      clear hgT hR5 hE5 x0 x1 y0 hent KT
      gi_wp2
      exact JnI.left HH.out HY.out HI2.out HG.out HR.out _
   case done=>
    intro D V hD hI hd
    obtain⟨v,rs,qs,h1,h2,h3,h4⟩:=hI.row
    have hlen:rs.length=n0:=h2.len.trans h3
    obtain⟨ar,cr,hvf,har,hle⟩:=h2.form
    rw[hlen]at hvf hle
    subst hvf
    have hI2:Its2 V ar qs:=by
     intro h0
     obtain⟨g,e,_,hc⟩:=h2.cells (a:=ar) (c:=cr) (by rw[hlen]) (by rw[h2.len];exact h0)
     refine⟨g,e,fun j hj=> ?_⟩
     have hj2:j<rs.length:=by rw[h2.len];exact hj
     exact⟨_,_,_,_,_,_,(hc j hj2).1,(hc j hj2).2,h2.at_ j hj2 hj⟩
    have KJ:=Join_any (cv:=cr) V hI2 (by rw[h3];omega) (by rw[h3];omega) (by
     intro x hx
     refine run_rok (f:=r) (l:=List.range n0) (fun j hj=>(HH.out.told j (by rw[HQ.out.1,HQ.out.2.1];exact List.mem_range.1 hj)).2) h4 x hx)
    rw[h3]at KJ
    replace KJ:=Lib.hid KJ
    have c0:=h1.cell
    have H5:=Lib.hid (And.intro hI (And.intro h4 h3))
    clear hI h1 h2 h3 h4 hlen har hle hI2 hI0
    gi_wp2
    refine⟨trivial,(callsIn_wide.2 KJ.out).mono ?_⟩
    rintro e wJ ⟨aj,nj,cj,bj,mj,dj,rfl,hv,hq⟩
    clear KJ
    have hBJ:=H5.out.1.rs.below hq H5.out.1.rs.lt
    have hEJ:=boxed_bel H5.out.1.er hq
    have hdJ:wJ.heap[D]?=some (.deferred (some [])):=(hq.block _ (Array.getElem?_eq_some_iff.1 hd).1).trans hd
    have hgJ:=grown_trans H5.out.1.gr (grown_no hq)
    have hA6:=hBJ.alloc (.cells #[.slice aj nj cj,.slice bj mj dj] 25)
    have hE6:=hEJ.alloc (.cells #[.slice aj nj cj,.slice bj mj dj] 25)
    have hT6:=Bx.new wJ aj nj cj bj mj dj
    have r0:=hA6.c0
    have r1:=hA6.c1
    have f0:=hA6.f 0
    have f1:=hA6.f 1
    have s0:=hE6.cell
    have u0:=hE6.frozen
    have t0:=hT6.c0
    have t1:=hT6.c1
    have hR:jnR q r=joA qs:=by
     unfold jnR
     rw[HQ.out.1,HQ.out.2.1,if_neg hz,H5.out.2.1]
     rfl
    have HR:=Lib.hid hR
    have HV:=Lib.hid hv
    have HD:=Lib.hid (And.intro hdJ (And.intro hgJ (And.intro hBJ hEJ)))
    clear hv hdJ hgJ hBJ hEJ hA6 hE6 hT6 hR hd c0 hq
    rcases jo_told qs with⟨z,hj⟩|⟨k,hj,hk1,hk2⟩
    · rw[hj]at HV HR
      obtain⟨s,hs⟩:=jo_head hj
      obtain⟨o1,o2,o3⟩:=HV.out z rfl
      have hnj:0<nj:=by
       have:=(own_sl o1).1
       rw[hs,List.length_cons]at this
       omega
      obtain⟨g,rfl,hgb,hgc,hgf⟩:=own_cells o1 hnj
      have hc0:wJ.cell? ⟨g,0,none⟩=some (.int .i64 (n0:Int)):=by
       rw[hgc 0 hnj,hs,H5.out.2.2]
       rfl
      have hgl:g<wJ.heap.size:=World.block_lt_of_cell? wJ _ hc0
      have hbz:Below wJ.heap.size wJ (wJ.alloc (.cells #[.slice (some ⟨g,0,none⟩) nj cj,.slice bj mj dj] 25)):=(Below.refl _ _).alloc (Nat.le_refl _) _
      have hc6:=(hbz.cell (p:=⟨g,0,none⟩) hgl).trans hc0
      have hf6:=(hbz.frozen (p:=⟨g,0,none⟩) hgl).trans (hgf 0)
      obtain⟨w6,hw6⟩:∃w,w=wJ.setCell ⟨g,0,none⟩ (.int .i64 (n0:Int)):=⟨_,rfl⟩
      have hneW:W.heap.size+2≠g∧W.heap.size+3≠g:=by
       have:=H5.out.1.er.lt
       omega
      have hs6:w6.heap.size=wJ.heap.size:=by rw[hw6];simp[World.setCell]
      have hR6:Bx w6 (W.heap.size+2) none 0 0 none 0 0:=by rw[hw6];exact(Below.heap_setCell _ ⟨g,0,none⟩ _ _ hneW.1).trans HD.out.2.2.1
      have hE6:Boxed w6 (W.heap.size+3) 28 (.int .i64 0):=by rw[hw6];exact(Below.heap_setCell _ ⟨g,0,none⟩ _ _ hneW.2).trans HD.out.2.2.2
      have hDD:D≠g:=by
       rintro rfl
       have h1:=HD.out.1
       simp[World.cell?,h1]at hc0
      have hd6:w6.heap[D]?=some (.deferred (some [])):=by rw[hw6];exact(Below.heap_setCell _ ⟨g,0,none⟩ _ _ hDD).trans HD.out.1
      have hg6:W.grownBy w6 T:=by rw[hw6];exact grown_set HD.out.2.1 (p:=⟨g,0,none⟩) _ (by show W.heap.size≤g;have:=H5.out.1.gr.size;omega)
      have hv6:Vl w6 (some ⟨g,0,none⟩) nj bj mj z.1 (z.2.map S):=by rw[hw6];exact⟨(own_sl o1).again hc0,o2.notext hc0 (fun s e=>by cases e),o3⟩
      have hT7:=Bx.new w6 (some ⟨g,0,none⟩) nj cj bj mj dj
      rw[hs6]at hT7
      have hR7:=hR6.alloc (.cells #[.slice (some ⟨g,0,none⟩) nj cj,.slice bj mj dj] 25)
      have hE7:=hE6.alloc (.cells #[.slice (some ⟨g,0,none⟩) nj cj,.slice bj mj dj] 25)
      have a0:=hR7.c0
      have a1:=hR7.c1
      have b0:=hR7.f 0
      have b1:=hR7.f 1
      have d0:=hE7.cell
      have d1:=hE7.frozen
      have q0:=hT7.c0
      have q1:=hT7.c1
      have hnj1:(0:Int)<(nj:Int):=by omega
      have HZ:=Lib.hid (And.intro hw6 (And.intro hR7 (And.intro hE7 (And.intro hd6 (And.intro hg6 hv6)))))
      rw[hw6]at a0 a1 b0 b1 d0 d1 q0 q1
      clear hbz hR7 hE7 hT7 hneW o1 o2 o3 hgc hgf hc0 hw6 hs hs6 hR6 hE6 hd6 hg6 hv6 hDD
      gi_wp2
      obtain⟨e0,e1,e2,e3,e4,e5⟩:=HZ.out
      have hbz:Below w6.heap.size w6 (w6.alloc (.cells #[.slice (some ⟨g,0,none⟩) nj cj,.slice bj mj dj] 25)):=(Below.refl _ _).alloc (Nat.le_refl _) _
      obtain⟨g0,g1,g2,g3,g4⟩:=jn_told (k:=0) e1 e2 ((Below.heap_alloc _ _ _ (Array.getElem?_eq_some_iff.1 e3).1).trans e3) (show W.heap.size+2+1<D by omega) (some ⟨g,0,none⟩) bj nj cj mj dj
      rw[e0]at g0 g1 g2 g3 g4
      refine⟨by simp,.inl ⟨_,_,rfl,run_takeDeferred g2,?_⟩⟩
      have p0:=g0.c0
      have p1:=g0.c1
      have p2:=g1.cell
      refine⟨.tuple #[.agg #[.slice (some ⟨g,0,none⟩) nj cj,.slice bj mj dj],.int .i64 0],by simp[results,Tryz.results35,Tryz.f35,go_sem,p0,p1,p2],?_⟩
      rw[HR.out]
      rw[e0]at e4 e5 hbz
      refine⟨_,_,_,_,_,_,rfl,fun q e=> ?_,g4 _ _ (grown_trans e4 (World.grownBy_alloc _ _ _)) (by omega)⟩
      injection e with e
      subst e
      exact g3 rfl _ _ _ _ _ _ (e5.below hbz)
    · rw[hj]at HV HR
      have hk0:¬k=0:=by omega
      gi_wp2
      obtain⟨b0,b1,b2,b3,b4⟩:=jn_told (k:=k) (HD.out.2.2.1.alloc (.cells #[.slice aj nj cj,.slice bj mj dj] 25)) (HD.out.2.2.2.alloc (.cells #[.slice aj nj cj,.slice bj mj dj] 25)) ((Below.heap_alloc _ _ _ (Array.getElem?_eq_some_iff.1 HD.out.1).1).trans HD.out.1) (show W.heap.size+2+1<D by omega) none none 0 0 0 0
      refine⟨by simp,.inl ⟨_,_,rfl,run_takeDeferred b2,?_⟩⟩
      have p0:=b0.c0
      have p1:=b0.c1
      have p2:=b1.cell
      refine⟨.tuple #[.agg #[.slice none 0 0,.slice none 0 0],.int .i64 k],by simp[results,Tryz.results35,Tryz.f35,go_sem,p0,p1,p2],?_⟩
      rw[HR.out]
      exact⟨_,_,_,_,_,_,rfl,fun q e=>(by cases e),b4 _ _ (grown_trans HD.out.2.1 (World.grownBy_alloc _ _ _)) (by omega)⟩
   case stop=>
    intro D V hD hX hd
    obtain⟨k,h1,h2,h3⟩:=hX.out
    have HX:=Lib.hid hX
    gi_wp2
    refine⟨by simp,.inl ⟨_,_,rfl,run_takeDeferred hd,?_⟩⟩
    have hr2:Bx (V.putObj D (.deferred none)) (W.heap.size+2) none 0 0 none 0 0:=(World.putObj_heap_other (by omega)).trans h2
    have b0:=hr2.c0
    have b1:=hr2.c1
    have b2:=(put_boxed h3 (.deferred none) (show W.heap.size+3≠D by omega)).cell
    refine⟨.tuple #[.agg #[.slice none 0 0,.slice none 0 0],.int .i64 k],by simp[results,Tryz.results35,Tryz.f35,go_sem,b0,b1,b2],?_⟩
    have hRR:jnR q r=(none,k):=by
     unfold jnR
     rw[HQ.out.1,HQ.out.2.1,if_neg hz,h1]
     rfl
    rw[hRR]
    exact⟨_,_,_,_,_,_,rfl,fun q e=>(by cases e),grown_put HX.out.gr _ (by omega)⟩
end
end Go.Proofs.YtbijncndjlmmdaaGreatDoor

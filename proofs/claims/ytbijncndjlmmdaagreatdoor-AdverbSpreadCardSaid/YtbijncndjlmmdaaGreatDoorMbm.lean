import Derived.Test.YtbijncndjlmmdaaGreatDoorMbl
set_option maxHeartbeats 3200000
set_option maxRecDepth 100000
namespace Go.Proofs.YtbijncndjlmmdaaGreatDoor
set_option linter.unusedVariables false
set_option linter.unusedSimpArgs false
open Go.RowKit
section
variable {g:Ar→Ar→Option Ar×Int} {u:Option Ar} {q:Ar}
theorem runL_none {α β:Type} {f:α→Option β×Int} {b:List α} {k:Int}:∀{a:List α},runL f a=(none,k)→runL f (a++b)=(none,k)
 |[],h=>by cases h
 |x::r,h=>by
  cases hx:f x with
  |mk o e=>
   cases o with
   |none=>rw[List.cons_append,runL_stop hx];rw[runL_stop hx]at h;exact h
   |some y=>
    rw[List.cons_append,runL_cons hx]
    rw[runL_cons hx]at h
    cases hr:runL f r with
    |mk o2 e2=>
     rw[hr]at h
     cases o2 with
     |none=>
      simp only at h
      rw[runL_none (a:=r) (k:=k) (by rw[hr];exact h)]
     |some ys=>simp at h
theorem stL_none {b:List Ar} {k:Int}:∀{a:Ar} {l:List Ar},stL g a l=(none,k)→stL g a (l++b)=(none,k)
 |a,[],h=>by cases h
 |a,x::r,h=>by
  cases hx:g a x with
  |mk o e=>
   cases o with
   |none=>rw[List.cons_append,stL_stop hx];rw[stL_stop hx]at h;exact h
   |some y=>
    rw[List.cons_append,stL_cons hx]
    rw[stL_cons hx]at h
    cases hr:stL g y r with
    |mk o2 e2=>
     rw[hr]at h
     cases o2 with
     |none=>
      simp only at h
      rw[stL_none (a:=y) (l:=r) (k:=k) (by rw[hr];exact h)]
     |some ys=>simp at h
def frA (g:Ar→Ar→Option Ar×Int) (q:Ar):Nat→Option Ar×Int
 | 0=>(some (itA q.1 q.2 0),0)
 |k+1=>match(frA g q k).1 with
  |some y=>g y (itA q.1 q.2 (k+1))
  |none=>(none,1)
theorem frA_ok (hg:Vb2 g) (hq:Rok (some q)) (h0:0<nI q.1):∀k,k<nI q.1→Told (frA g q k)∧Rok (frA g q k).1
 | 0,_=>⟨.yes _,it_rok hq h0⟩
 |k+1,h=>by
  have ih:=frA_ok hg hq h0 k (by omega)
  unfold frA
  cases e:(frA g q k).1 with
  |none=>exact⟨.no ⟨by decide,by decide⟩,trivial⟩
  |some y=>exact hg _ _ (by rw[←e];exact ih.2) (it_rok hq h)
theorem fr_st (hg:Vb2 g) (hq:Rok (some q)) (h0:0<nI q.1):∀k,k<nI q.1→
 (∃ys z,runL (frA g q) (List.range (k+1))=(some (ys++[z]),0)∧stL g (itA q.1 q.2 0) ((List.range k).map fun j=>itA q.1 q.2 (j+1))=(some (ys++[z]),0)∧frA g q k=(some z,0))∨
 (∃e,runL (frA g q) (List.range (k+1))=(none,e)∧stL g (itA q.1 q.2 0) ((List.range k).map fun j=>itA q.1 q.2 (j+1))=(none,e))
 | 0,_=>.inl ⟨[],itA q.1 q.2 0,rfl,rfl,rfl⟩
 |k+1,h=>by
  have e1:List.range (k+1+1)=List.range (k+1)++[k+1]:=List.range_succ
  have e2:(List.range (k+1)).map (fun j=>itA q.1 q.2 (j+1))=(List.range k).map (fun j=>itA q.1 q.2 (j+1))++[itA q.1 q.2 (k+1)]:=by rw[List.range_succ,List.map_append];rfl
  rw[e1,e2]
  rcases fr_st hg hq h0 k (by omega)with⟨ys,z,h1,h2,h3⟩|⟨e,h1,h2⟩
  · have e3:frA g q (k+1)=g z (itA q.1 q.2 (k+1)):=by
     show(match(frA g q k).1 with|some y=>g y (itA q.1 q.2 (k+1))|none=>(none,1))=_
     rw[h3]
    rcases(frA_ok hg hq h0 (k+1) h).1 with⟨y,hy⟩|⟨k',hy,_⟩
    · exact .inl ⟨ys++[z],y,runL_snoc h1 hy,stL_snoc h2 (by rw[←e3];exact hy),hy⟩
    · exact .inr ⟨k',runL_bad (b:=[]) h1 hy,stL_bad (m:=[]) h2 (by rw[←e3];exact hy)⟩
  · exact .inr ⟨e,runL_none h1,stL_none h2⟩
theorem iT_tl {n:Nat} (hn:nI q.1=n+1):(iT q).tail=(List.range n).map fun j=>itA q.1 q.2 (j+1):=by
 unfold iT
 rw[hn,List.range_succ_eq_map,List.map_cons,List.tail_cons,List.map_map]
 rfl
theorem jn_scan (hg:Vb2 g) (hq:Rok (some q)) (hl:q.1≠[]):scA g (some q)=jnR q (frA g q):=by
 unfold scA jnR
 simp only
 by_cases hn:nI q.1=0
 · rw[if_pos (.inr hn),if_pos hn]
 · rw[if_neg (fun h=>h.elim hl hn),if_neg hn]
   obtain⟨n,hn1⟩:∃n,nI q.1=n+1:=⟨nI q.1-1,by omega⟩
   rw[iT_tl hn1,hn1]
   rcases fr_st hg hq (by omega) n (by omega)with⟨ys,z,h1,h2,_⟩|⟨e,h1,h2⟩
   · rw[h1,h2]
   · rw[h1,h2]
end
structure FoI (W0:World) (T:TypeId) (p:Value) (gn gf:Nat) (g:Ar→Ar→Option Ar×Int) (q:Ar) (k:Nat) (w:World):Prop where
 nb:∃a n c b m d,Bx w gn a n c b m d∧∀j,k=j+1→∃y,(frA g q j).1=some y∧AvQ w a n c b m d y
 fb:Boxed w gf 54 (.iface T p)
 w0:Below W0.heap.size W0 w
section
variable {W W0 w:World} {a b:Option Addr} {n c m d:Nat} {q:Ar} {T:TypeId} {p:Value} {n1 n2 n0:FuncId} {f:Ar→Option Ar×Int} {g:Ar→Ar→Option Ar×Int} {u:Option Ar}
theorem fold_is (T:TypeId) (p:Value) (W:World):Calls Tryz.prog 43 #[.iface T p] W fun e w'=>e=.returned (.func (.func 89) #[] #[.pointer (some ⟨W.heap.size+1,0,none⟩),.pointer (some ⟨W.heap.size,0,none⟩)])∧w'=(W.alloc (.cells #[.iface T p] 54)).alloc (.cells #[.slice none 0 0,.slice none 0 0] 25):=by
 have hmf:∀(fn:Fn) (first cap:Array Value) (w:World),(Instr.makeFunc fn first cap).run Tryz.prog w=.ok (.func fn first cap) w:=fun _ _ _ _=>rfl
 go_enter Tryz.func43,Tryz.ntmps43
 go_wp2
 go_ret
 exact⟨rfl,rfl⟩
theorem FoI.own {B gn gf k:Nat} {w':World} (h:FoI W0 T p gn gf g q k w) (ho:Own2 B w w') (hn:gn<B) (hf:gf<B) (h0:W0.heap.size≤B):FoI W0 T p gn gf g q k w':=by
 obtain⟨a,n,c,b,m,d,h1,h2⟩:=h.nb
 refine⟨⟨a,n,c,b,m,d,(ho.low _ hn).trans h1,fun j e=> ?_⟩,(ho.low _ hf).trans h.fb,⟨ho.os.trans h.w0.os,ho.tape.trans h.w0.tape,ho.output.trans h.w0.output,Nat.le_trans h.w0.size ho.soft.size,fun k hk=>(ho.low k (by omega)).trans (h.w0.block k hk)⟩⟩
 obtain⟨y,h3,h4⟩:=h2 j e
 exact⟨y,h3,h4.soft ho.soft⟩
theorem FoI.soft {gn gf k:Nat} (h:FoI W0 T p gn gf g q k w):NoData w gn∧∀o,w.heap[gn]?=some o→o.isCells=true:=by
 obtain⟨a,n,c,b,m,d,h1,_⟩:=h.nb
 refine⟨nodata_bx h1,fun o ho=> ?_⟩
 rw[show w.heap[gn]?=_ from h1]at ho
 cases ho;rfl
theorem fo_end {w w4:World} {gn gf gr i:Nat} {a b:Option Addr} {n c m d:Nat} {r:Option Ar×Int} (h0:W0.heap.size≤gn) (hfn:gf≠gn) (hw0:Below W0.heap.size W0 w4) (hb:w.grownBy w4 (some gn)) {an bn:Option Addr} {nn cn mn dn:Nat} (hN:Bx w4 gn an nn cn bn mn dn) {ar br:Option Addr} {nr cr mr dr:Nat} (hR:Bx w4 gr ar nr cr br mr dr) (hgr:w.heap.size≤gr) (hgn:gn<w.heap.size) (hF:Boxed w4 gf 54 (.iface T p)) (hfw:gf<w.heap.size)
 (hr:frA g q i=r) (hv:∀y,r.1=some y→AvQ w4 a n c b m d y):
 VE r (fun w'=>w.grownBy w' (some gn)∧(r.1≠none→FoI W0 T p gn gf g q (i+1) w')) (.returned (.tuple #[.agg #[.slice a n c,.slice b m d],.int .i64 r.2])) ((((w4.setCell ⟨gn,0,none⟩ (.slice a n c)).setCell ⟨gn,1,none⟩ (.slice b m d)).setCell ⟨gr,0,none⟩ (.slice a n c)).setCell ⟨gr,1,none⟩ (.slice b m d)):=by
 have hne:gr≠gn:=by omega
 have hN2:=hN.set a n c b m d
 have hR1:Bx ((w4.setCell ⟨gn,0,none⟩ (.slice a n c)).setCell ⟨gn,1,none⟩ (.slice b m d)) gr ar nr cr br mr dr:=(Below.heap_setCell _ _ _ _ hne).trans ((Below.heap_setCell _ _ _ _ hne).trans hR)
 have hR2:=hR1.set a n c b m d
 have hN3:Bx ((((w4.setCell ⟨gn,0,none⟩ (.slice a n c)).setCell ⟨gn,1,none⟩ (.slice b m d)).setCell ⟨gr,0,none⟩ (.slice a n c)).setCell ⟨gr,1,none⟩ (.slice b m d)) gn a n c b m d:=(Below.heap_setCell _ _ _ _ hne.symm).trans ((Below.heap_setCell _ _ _ _ hne.symm).trans hN2)
 have hs:Soft w4 ((((w4.setCell ⟨gn,0,none⟩ (.slice a n c)).setCell ⟨gn,1,none⟩ (.slice b m d)).setCell ⟨gr,0,none⟩ (.slice a n c)).setCell ⟨gr,1,none⟩ (.slice b m d)):=by
  have n1:=nodata_bx hN
  have n2:NoData (w4.setCell ⟨gn,0,none⟩ (.slice a n c)) gn:=nodata_bx (hN.set0 a n c)
  have n3:=nodata_bx hR1
  have n4:NoData (((w4.setCell ⟨gn,0,none⟩ (.slice a n c)).setCell ⟨gn,1,none⟩ (.slice b m d)).setCell ⟨gr,0,none⟩ (.slice a n c)) gr:=nodata_bx (hR1.set0 a n c)
  exact(((soft_set (p:=⟨gn,0,none⟩) _ n1).trans (soft_set (p:=⟨gn,1,none⟩) _ n2)).trans (soft_set (p:=⟨gr,0,none⟩) _ n3)).trans (soft_set (p:=⟨gr,1,none⟩) _ n4)
 have hF2:∀{X:World},Boxed X gf 54 (.iface T p)→∀(k i:Nat) (v:Value),gf≠k→Boxed (X.setCell ⟨k,i,none⟩ v) gf 54 (.iface T p):=fun h k i v hk=>(Below.heap_setCell _ ⟨k,i,none⟩ _ _ hk).trans h
 have hgw:=hb
 refine⟨a,n,c,b,m,d,rfl,fun y e=>((hv y e).soft hs).v,?_,fun hr1=> ?_⟩
 · have g1:w4.grownBy ((((w4.setCell ⟨gn,0,none⟩ (.slice a n c)).setCell ⟨gn,1,none⟩ (.slice b m d)).setCell ⟨gr,0,none⟩ (.slice a n c)).setCell ⟨gr,1,none⟩ (.slice b m d)) none→True:=fun _=>trivial
   refine grown_set (grown_set ?_ (p:=⟨gr,0,none⟩) _ hgr) (p:=⟨gr,1,none⟩) _ hgr
   refine⟨hb.os,hb.tape,hb.output,by simpa[World.setCell]using hb.size,fun k hk hne2=> ?_⟩
   have hkn:k≠gn:=fun e=>hne2 (by rw[e])
   exact((Below.heap_setCell _ ⟨gn,1,none⟩ _ _ hkn).trans (Below.heap_setCell _ ⟨gn,0,none⟩ _ _ hkn)).trans (hb.block k hk hne2)
 · obtain⟨y,e⟩:∃y,r.1=some y:=by
    cases e:r.1 with
    |none=>exact absurd e hr1
    |some y=>exact⟨y,rfl⟩
   refine⟨⟨a,n,c,b,m,d,hN3,fun j hj=> ?_⟩,hF2 (hF2 (hF2 (hF2 hF _ _ _ hfn) _ _ _ hfn) _ _ _ (by omega)) _ _ _ (by omega),?_⟩
   · obtain rfl:j=i:=by omega
     exact⟨y,by rw[hr];exact e,(hv y e).soft hs⟩
   · have hgr0:W0.heap.size≤gr:=by omega
     exact(((hw0.setCell (p:=⟨gn,0,none⟩) h0 _).setCell (p:=⟨gn,1,none⟩) h0 _).setCell (p:=⟨gr,0,none⟩) hgr0 _).setCell (p:=⟨gr,1,none⟩) hgr0 _
theorem fo1_is (V:VbIs W0 T p n1 n2 n0 f g u) {gn gf i:Nat} (h0:W0.heap.size≤gn) (hfn:gf≠gn) (hI:FoI W0 T p gn gf g q i W) (h1:AvQ W a n c b m d (itA q.1 q.2 i)) (hfr:Told (frA g q i)):
 Calls Tryz.prog 89 #[.int .i64 (i:Int),.agg #[.slice a n c,.slice b m d],.pointer (some ⟨gn,0,none⟩),.pointer (some ⟨gf,0,none⟩)] W
  (VE (frA g q i) fun w'=>W.grownBy w' (some gn)∧((frA g q i).1≠none→FoI W0 T p gn gf g q (i+1) w')):=by
 obtain⟨an,nn,cn,bn,mn,dn,hN,hy⟩:=hI.nb
 have h:Lv (fun w=>Bx w (W.heap.size+1) none 0 0 none 0 0∧Bx w W.heap.size a n c b m d∧Bx w gn an nn cn bn mn dn∧Boxed w gf 54 (.iface T p)∧Below W.heap.size W w)
  ((W.alloc (.cells #[.slice a n c,.slice b m d] 25)).alloc (.cells #[.slice none 0 0,.slice none 0 0] 25)):=
  ⟨⟨Bx.two W _ _ _ _ _ _ _,(Bx.new W a n c b m d).alloc _,(hN.alloc _).alloc _,(hI.fb.alloc _).alloc _,((Below.refl _ _).alloc (Nat.le_refl _) _).alloc (by simp) _⟩⟩
 have LN:=hN.lt
 have LF:=hI.fb.lt
 have HW0:=Lib.hid hI.w0
 rcases Nat.eq_zero_or_pos i with hi|hi
 · subst hi
   obtain⟨r,hr⟩:∃r,frA g q 0=r:=⟨_,rfl⟩
   have hr2:r=(some (itA q.1 q.2 0),0):=hr.symm
   have HR:=Lib.hid (And.intro hr hr2)
   have HX:=Lib.hid h1
   clear V hI h1 hfr hy hN hr hr2
   go_enter Tryz.func89,Tryz.ntmps89
   go_upto_region 1 with fail
   obtain⟨w4,hw4⟩:∃z,z=(W.alloc (.cells #[.slice a n c,.slice b m d] 25)).alloc (.cells #[.slice none 0 0,.slice none 0 0] 25):=⟨_,rfl⟩
   rw[←hw4]at h ⊢
   clear hw4
   have x1:=h.out.2.1.c0
   have x2:=h.out.2.1.c1
   have y0:=h.out.1.c0
   have y1:=h.out.1.c1
   have f0:=h.out.1.f 0
   have f1:=h.out.1.f 1
   have z0:=h.out.2.2.1.c0
   have z1:=h.out.2.2.1.c1
   have e0:=h.out.2.2.1.f 0
   have e1:=h.out.2.2.1.f 1
   have hS:=h.out.2.2.1.set a n c b m d
   have s0:=hS.c0
   have s1:=hS.c1
   have hRS:Bx ((w4.setCell ⟨gn,0,none⟩ (.slice a n c)).setCell ⟨gn,1,none⟩ (.slice b m d)) (W.heap.size+1) none 0 0 none 0 0:=(Below.heap_setCell _ _ _ _ (by show _≠gn;omega)).trans ((Below.heap_setCell _ _ _ _ (by show _≠gn;omega)).trans h.out.1)
   have t0:=hRS.c0
   have t1:=hRS.c1
   have u0:=hRS.f 0
   have u1:=hRS.f 1
   have HH:=Lib.hid h
   clear h hS
   go_wp2_with fail
   have hR:=hRS.set a n c b m d
   have r0:=hR.c0
   have r1:=hR.c1
   have hE:=fo_end (i:=0) (r:=r) (q:=q) (g:=g) h0 hfn (HW0.out.trans (HH.out.out.2.2.2.2.mono HW0.out.size)) (grown_no HH.out.out.2.2.2.2) HH.out.out.2.2.1 HH.out.out.1 (by omega) LN HH.out.out.2.2.2.1 LF HR.out.1 (a:=a) (n:=n) (c:=c) (b:=b) (m:=m) (d:=d) (fun y e=>by
    rw[HR.out.2]at e
    injection e with e
    subst e
    exact HX.out.below HH.out.out.2.2.2.2)
   rw[HR.out.1]
   have hr2:r.2=0:=by rw[HR.out.2]
   rw[hr2]at hE
   exact bodyPost_ret (v:=.tuple #[.agg #[.slice a n c,.slice b m d],.int .i64 0]) (by simp[results,Tryz.results89,go_sem,r0,r1]) rfl hE
 · obtain⟨k,rfl⟩:∃k,i=k+1:=⟨i-1,by omega⟩
   obtain⟨yk,hyk,hav⟩:=hy k rfl
   have hfe:frA g q (k+1)=g yk (itA q.1 q.2 (k+1)):=by
    show(match(frA g q k).1 with|some y=>g y (itA q.1 q.2 (k+1))|none=>(none,1))=_
    rw[hyk]
   have KC:=Lib.hid (fun w (hb:Below W.heap.size W w)=>V.two (hI.w0.trans (hb.mono hI.w0.size)) (hav.below hb) (h1.below hb))
   have hm2:=V.m2
   have he2:=V.e2
   rw[hfe]at hfr ⊢
   have HFR:=Lib.hid (And.intro hfe hfr)
   have HRE:=Lib.hid hfe
   generalize g yk (itA q.1 q.2 (k+1))=r at*
   have hk0:¬(k:Int)+1=0:=by omega
   clear V hI h1 hfr hy hN hfe hav hyk hi
   go_enter Tryz.func89,Tryz.ntmps89
   go_upto_region 1 with fail
   obtain⟨w4,hw4⟩:∃z,z=(W.alloc (.cells #[.slice a n c,.slice b m d] 25)).alloc (.cells #[.slice none 0 0,.slice none 0 0] 25):=⟨_,rfl⟩
   rw[←hw4]at h ⊢
   clear hw4
   have x1:=h.out.2.1.c0
   have x2:=h.out.2.1.c1
   have z0:=h.out.2.2.1.c0
   have z1:=h.out.2.2.1.c1
   have v0:=h.out.2.2.2.1.cell
   go_wp2_with fail
   refine(KC.out _ h.out.2.2.2.2).mono ?_
   rintro e w5 ⟨at_,nt,ct,bt,mt,dt,rfl,hv,hq⟩
   replace h:=go_to h hq
   clear x1 x2 z0 z1 v0 hq
   go_upto_region 5 with fail
   have hT:=Bx.new w5 at_ nt ct bt mt dt
   have h:Lv (fun w=>Bx w (W.heap.size+1) none 0 0 none 0 0∧Bx w gn an nn cn bn mn dn∧Boxed w gf 54 (.iface T p)∧Bx w w5.heap.size at_ nt ct bt mt dt∧Below W.heap.size W w) (w5.alloc (.cells #[.slice at_ nt ct,.slice bt mt dt] 25)):=
    ⟨⟨h.out.1.alloc _,h.out.2.2.1.alloc _,h.out.2.2.2.1.alloc _,hT,h.out.2.2.2.2.alloc h.out.2.2.2.2.size _⟩⟩
   replace hv:=hv.below ((Below.refl _ w5).alloc (Nat.le_refl _) (.cells #[.slice at_ nt ct,.slice bt mt dt] 25))
   have LT:=h.out.2.2.2.2.size
   have LT5:W.heap.size+1<w5.heap.size+1:=by have:=h.out.1.lt;simpa using this
   obtain⟨gt,hgt⟩:∃k,k=w5.heap.size:=⟨_,rfl⟩
   rw[←hgt]at h LT5 ⊢
   obtain⟨w6,hw6⟩:∃z,z=w5.alloc (.cells #[.slice at_ nt ct,.slice bt mt dt] 25):=⟨_,rfl⟩
   rw[←hw6]at h hv ⊢
   clear hw6 hT LT hgt KC
   have HV:=Lib.hid hv
   clear hv
   have y0:=h.out.1.c0
   have y1:=h.out.1.c1
   have f0:=h.out.1.f 0
   have f1:=h.out.1.f 1
   have z0:=h.out.2.1.c0
   have z1:=h.out.2.1.c1
   have e0:=h.out.2.1.f 0
   have e1:=h.out.2.1.f 1
   have x0:=h.out.2.2.2.1.c0
   have x1:=h.out.2.2.2.1.c1
   have hS:=h.out.2.1.set at_ nt ct bt mt dt
   have s0:=hS.c0
   have s1:=hS.c1
   have hRS:Bx ((w6.setCell ⟨gn,0,none⟩ (.slice at_ nt ct)).setCell ⟨gn,1,none⟩ (.slice bt mt dt)) (W.heap.size+1) none 0 0 none 0 0:=(Below.heap_setCell _ _ _ _ (by show _≠gn;omega)).trans ((Below.heap_setCell _ _ _ _ (by show _≠gn;omega)).trans h.out.1)
   have t0:=hRS.c0
   have t1:=hRS.c1
   have u0:=hRS.f 0
   have u1:=hRS.f 1
   have HH:=Lib.hid h
   clear h hS
   go_wp2_with fail
   have hR:=hRS.set at_ nt ct bt mt dt
   have r0:=hR.c0
   have r1:=hR.c1
   exact bodyPost_ret (v:=.tuple #[.agg #[.slice at_ nt ct,.slice bt mt dt],.int .i64 r.2]) (by simp[results,Tryz.results89,go_sem,r0,r1]) rfl
    (fo_end (i:=k+1) (r:=r) (q:=q) (g:=g) h0 hfn (HW0.out.trans (HH.out.out.2.2.2.2.mono HW0.out.size)) (grown_no HH.out.out.2.2.2.2) HH.out.out.2.1 HH.out.out.1 (by omega) LN HH.out.out.2.2.1 LF HRE.out (fun y e=>by
      have hh:=HV.out
      rw[e]at hh
      exact hh))
end
end Go.Proofs.YtbijncndjlmmdaaGreatDoor

import Derived.Test.YtbijncndjlmmdaaGreatDoorMbn
import Derived.Defers
import Derived.Recover
import Derived.Laws.Pointers
set_option maxHeartbeats 6400000
set_option maxRecDepth 100000
namespace Go.Proofs.YtbijncndjlmmdaaGreatDoor
set_option linter.unusedVariables false
set_option linter.unusedSimpArgs false
open Go.RowKit Go.Shelf
attribute [local go_sem] Oper.semAt_some
structure RdI (W W0:World) (T:TypeId) (p:Value) (g:Ar→Ar→Option Ar×Int) (x:Ar) (s1 i:Nat) (w:World):Prop where
 now:∃a n c b m d,Bx w s1 a n c b m d∧∀j,i=j+1→∃y,(frA g x j).1=some y∧Vl w a n b m y.1 (y.2.map S)
 nx:Boxed w (s1+3) 57 (.func (.func 89) #[] #[.pointer (some ⟨s1+2,0,none⟩),.pointer (some ⟨s1+1,0,none⟩)])
 rs:Bx w W.heap.size none 0 0 none 0 0
 er:Boxed w (W.heap.size+1) 28 (.int .i64 0)
 fo:FoI W0 T p (s1+2) (s1+1) g x i w
 run:∃qs,runL (frA g x) (List.range i)=(some qs,0)
 bl:Below W.heap.size W w
structure RdX (W:World) (g:Ar→Ar→Option Ar×Int) (x:Ar) (n:Nat) (w:World):Prop where
 out:∃k,runL (frA g x) (List.range n)=(none,k)∧Bx w W.heap.size none 0 0 none 0 0∧Boxed w (W.heap.size+1) 28 (.int .i64 k)
 bl:Below W.heap.size W w
section
variable {W W0 w:World} {T:TypeId} {p:Value} {n1 n2 n0:FuncId} {f:Ar→Option Ar×Int} {g:Ar→Ar→Option Ar×Int} {u:Option Ar} {x:Ar} {s1 i Sz:Nat}
theorem rd_fr (hg:Vb2 g) (hq:Rok (some x)) {k:Nat} (hn:nI x.1=k+1):
 (∃z,rdL g (itA x.1 x.2 0) (iT x).tail=(some z,0)∧frA g x k=(some z,0)∧∃qs,runL (frA g x) (List.range (k+1))=(some qs,0))∨(∃e,rdL g (itA x.1 x.2 0) (iT x).tail=(none,e)∧runL (frA g x) (List.range (k+1))=(none,e)):=by
 rw[iT_tl hn]
 rcases fr_st hg hq (by omega) k (by omega)with⟨ys,z,h1,h2,h3⟩|⟨e,h1,h2⟩
 · rcases st_rd (g:=g) (a:=itA x.1 x.2 0) (l:=(List.range k).map fun j=>itA x.1 x.2 (j+1))with⟨ys',z',h4,h5,_⟩|⟨e,h4,_⟩
   · rw[h2]at h4
     injection h4 with h4 _
     injection h4 with h4
     have hz:z=z':=by
      have:=congrArg List.getLast? h4
      simpa using this
     subst hz
     exact .inl ⟨z,h5,h3,_,h1⟩
   · rw[h2]at h4
     injection h4 with h4 _
     cases h4
 · rcases st_rd (g:=g) (a:=itA x.1 x.2 0) (l:=(List.range k).map fun j=>itA x.1 x.2 (j+1))with⟨ys',z',h4,h5,_⟩|⟨e',h4,h5⟩
   · rw[h2]at h4
     injection h4 with h4 _
     cases h4
   · rw[h2]at h4
     injection h4 with _ h4
     subst h4
     exact .inr ⟨e,h5,h1⟩
theorem RdI.abs (hs:W.heap.size+2≤s1) (h0:W0.heap.size≤W.heap.size) (hS:s1+4≤Sz):Abs2 Sz (RdI W W0 T p g x s1 i) where
 own:=fun A A' h hb=>by
  obtain⟨a,n,c,b,m,d,h1,h2⟩:=h.now
  have l3:=h.nx.lt
  exact⟨⟨a,n,c,b,m,d,h1.below hb h1.lt,fun j e=>by obtain⟨y,h3,h4⟩:=h2 j e;exact⟨y,h3,h4.below hb⟩⟩,boxed_bel h.nx hb,h.rs.below hb h.rs.lt,boxed_bel h.er hb,h.fo.own (own2_below hb (B:=A.heap.size) (Nat.le_refl _)) (by omega) (by omega) (by omega),h.run,h.bl.trans (hb.mono h.bl.size)⟩
 put:=fun A l o o' h hl ho hc=>by
  obtain⟨a,n,c,b,m,d,h1,h2⟩:=h.now
  exact⟨⟨a,n,c,b,m,d,(World.putObj_heap_other (by omega)).trans h1,fun j e=>by obtain⟨y,h3,h4⟩:=h2 j e;exact⟨y,h3,h4.soft (soft_put o' ho hc)⟩⟩,put_boxed h.nx _ (by omega),(World.putObj_heap_other (by omega)).trans h.rs,put_boxed h.er _ (by omega),h.fo.own (own2_put (B:=l) o' (Nat.le_refl _) ho hc) (by omega) (by omega) (by omega),h.run,put_below h.bl _ (by omega)⟩
theorem RdX.abs {n:Nat} (hS:W.heap.size+2≤Sz):Abs2 Sz (RdX W g x n) where
 own:=fun A A' h hb=>by
  obtain⟨k,h1,h2,h3⟩:=h.out
  exact⟨⟨k,h1,h2.below hb h2.lt,boxed_bel h3 hb⟩,h.bl.trans (hb.mono h.bl.size)⟩
 put:=fun A l o o' h hl ho hc=>by
  obtain⟨k,h1,h2,h3⟩:=h.out
  exact⟨⟨k,h1,(World.putObj_heap_other (by omega)).trans h2,put_boxed h3 _ (by omega)⟩,put_below h.bl _ (by omega)⟩
theorem grown_no' {W w:World} (h:Below W.heap.size W w):W.grownBy w none:=grown_no h
theorem bx_gn {Y w5:World} {gn:Nat} (hg:Y.grownBy w5 (some gn)) {k n c m d:Nat} {a b:Option Addr} (h:Bx Y k a n c b m d) (hne:k≠gn):Bx w5 k a n c b m d:=(hg.block k h.lt fun e=>hne (by injection e)).trans h
theorem boxed_gn {Y w5:World} {gn:Nat} (hg:Y.grownBy w5 (some gn)) {k:Nat} {t:TypeId} {v:Value} (h:Boxed Y k t v) (hne:k≠gn):Boxed w5 k t v:=h.kept hg fun e=>hne (by injection e)
theorem RdI.bel {Y w5:World} (h:RdI W W0 T p g x s1 i Y) (hs:W.heap.size+2≤s1) (hg:Y.grownBy w5 (some (s1+2))):Below W.heap.size W w5:=h.bl.grown hg h.bl.size fun k e=>by injection e with e;omega
theorem RdI.keep {Y w5:World} (h:RdI W W0 T p g x s1 i Y) (hg:Y.grownBy w5 (some (s1+2))):KeepsOthers Y w5:=KeepsOthers.of_grownBy hg fun t o e ho=>by injection e with e;subst e;exact h.fo.soft.2 o ho
theorem RdI.left {Y w5:World} {n:Nat} (h:RdI W W0 T p g x s1 i Y) (hs:W.heap.size+2≤s1) (hi:i<n) (hg:Y.grownBy w5 (some (s1+2))) {k:Int} (hr:frA g x i=(none,k)) (a b:Option Addr) (nn c m d:Nat):
 KeepsOthers Y (((((w5.setCell ⟨s1,0,none⟩ (.slice a nn c)).setCell ⟨s1,1,none⟩ (.slice b m d)).setCell ⟨W.heap.size,0,none⟩ (.slice none 0 0)).setCell ⟨W.heap.size,1,none⟩ (.slice none 0 0)).setCell ⟨W.heap.size+1,0,none⟩ (.int .i64 k))∧
 RdX W g x n (((((w5.setCell ⟨s1,0,none⟩ (.slice a nn c)).setCell ⟨s1,1,none⟩ (.slice b m d)).setCell ⟨W.heap.size,0,none⟩ (.slice none 0 0)).setCell ⟨W.heap.size,1,none⟩ (.slice none 0 0)).setCell ⟨W.heap.size+1,0,none⟩ (.int .i64 k)):=by
 obtain⟨qs,hrun⟩:=h.run
 have hR:=bx_gn hg h.rs (show W.heap.size≠s1+2 by omega)
 have hE:=boxed_gn hg h.er (show W.heap.size+1≠s1+2 by omega)
 have hR2:Bx ((w5.setCell ⟨s1,0,none⟩ (.slice a nn c)).setCell ⟨s1,1,none⟩ (.slice b m d)) W.heap.size none 0 0 none 0 0:=(Below.heap_setCell _ _ _ _ (by show _≠s1;omega)).trans ((Below.heap_setCell _ _ _ _ (by show _≠s1;omega)).trans hR)
 have hE2:Boxed ((((w5.setCell ⟨s1,0,none⟩ (.slice a nn c)).setCell ⟨s1,1,none⟩ (.slice b m d)).setCell ⟨W.heap.size,0,none⟩ (.slice none 0 0)).setCell ⟨W.heap.size,1,none⟩ (.slice none 0 0)) (W.heap.size+1) 28 (.int .i64 0):=
  (Below.heap_setCell _ _ _ _ (by simp)).trans ((Below.heap_setCell _ _ _ _ (by simp)).trans ((Below.heap_setCell _ _ _ _ (by show _≠s1;omega)).trans ((Below.heap_setCell _ _ _ _ (by show _≠s1;omega)).trans hE)))
 have hs1:W.heap.size≤s1:=by omega
 refine⟨(((((h.keep hg).trans (KeepsOthers.setCell _ _ _)).trans (KeepsOthers.setCell _ _ _)).trans (KeepsOthers.setCell _ _ _)).trans (KeepsOthers.setCell _ _ _)).trans (KeepsOthers.setCell _ _ _),⟨⟨k,?_,(hR2.set none 0 0 none 0 0).setOther (by simp) _,hE2.set _⟩,?_⟩⟩
 · obtain⟨b,hb⟩:=range_cut hi
   rw[hb];exact runL_bad hrun hr
 · exact(((((h.bel hs hg).setCell (p:=⟨s1,0,none⟩) hs1 _).setCell (p:=⟨s1,1,none⟩) hs1 _).setCell (p:=⟨W.heap.size,0,none⟩) (Nat.le_refl _) _).setCell (p:=⟨W.heap.size,1,none⟩) (Nat.le_refl _) _).setCell (p:=⟨W.heap.size+1,0,none⟩) (by show _≤W.heap.size+1;omega) _
theorem RdI.next {Y w5:World} (h:RdI W W0 T p g x s1 i Y) (hs:W.heap.size+2≤s1) (h0:W0.heap.size≤W.heap.size) (hg:Y.grownBy w5 (some (s1+2))) {y:Ar} (hr:frA g x i=(some y,0)) {a b:Option Addr} {nn c m d:Nat} (hv:Vl w5 a nn b m y.1 (y.2.map S)) (hF:FoI W0 T p (s1+2) (s1+1) g x (i+1) w5):
 KeepsOthers Y ((w5.setCell ⟨s1,0,none⟩ (.slice a nn c)).setCell ⟨s1,1,none⟩ (.slice b m d))∧KpI (s1+4) Y ((w5.setCell ⟨s1,0,none⟩ (.slice a nn c)).setCell ⟨s1,1,none⟩ (.slice b m d))∧RdI W W0 T p g x s1 (i+1) ((w5.setCell ⟨s1,0,none⟩ (.slice a nn c)).setCell ⟨s1,1,none⟩ (.slice b m d)):=by
 obtain⟨qs,hrun⟩:=h.run
 obtain⟨a0,n0,c0,b0,m0,d0,hN,_⟩:=h.now
 have hN5:=bx_gn hg hN (show s1≠s1+2 by omega)
 have hS1:Soft w5 (w5.setCell ⟨s1,0,none⟩ (.slice a nn c)):=soft_set (p:=⟨s1,0,none⟩) _ (nodata_bx hN5)
 have hS2:Soft w5 ((w5.setCell ⟨s1,0,none⟩ (.slice a nn c)).setCell ⟨s1,1,none⟩ (.slice b m d)):=hS1.trans (soft_set (p:=⟨s1,1,none⟩) _ (nodata_bx (hN5.set0 a nn c)))
 have hSY:Soft Y w5:=soft_grown hg fun t e=>by injection e with e;subst e;exact h.fo.soft.1
 have far:∀{k:Nat},k≠s1→((w5.setCell ⟨s1,0,none⟩ (.slice a nn c)).setCell ⟨s1,1,none⟩ (.slice b m d)).heap[k]?=w5.heap[k]?:=fun hk=>(Below.heap_setCell _ ⟨s1,1,none⟩ _ _ hk).trans (Below.heap_setCell _ ⟨s1,0,none⟩ _ _ hk)
 have hs1:W.heap.size≤s1:=by omega
 refine⟨((h.keep hg).trans (KeepsOthers.setCell _ _ _)).trans (KeepsOthers.setCell _ _ _),⟨hSY.trans hS2,fun hlt=>(far (by omega)).trans (hg.block _ hlt fun e=>by injection e with e;omega)⟩,?_⟩
 refine⟨⟨a,nn,c,b,m,d,hN5.set a nn c b m d,fun j e=> ?_⟩,(far (by omega)).trans (boxed_gn hg h.nx (by omega)),(far (by omega)).trans (bx_gn hg h.rs (by omega)),(far (by omega)).trans (boxed_gn hg h.er (by omega)),?_,?_,((h.bel hs hg).setCell (p:=⟨s1,0,none⟩) hs1 _).setCell (p:=⟨s1,1,none⟩) hs1 _⟩
 · obtain rfl:j=i:=by omega
   exact⟨y,by rw[hr],hv.soft hS2⟩
 · obtain⟨a',n',c',b',m',d',k1,k2⟩:=hF.nb
   exact⟨⟨a',n',c',b',m',d',(far (by omega)).trans k1,fun j e=>by obtain⟨y,h3,h4⟩:=k2 j e;exact⟨y,h3,h4.soft hS2⟩⟩,(far (by omega)).trans hF.fb,(hF.w0.setCell (p:=⟨s1,0,none⟩) (by show _≤s1;omega) _).setCell (p:=⟨s1,1,none⟩) (by show _≤s1;omega) _⟩
 · rw[List.range_succ]
   exact⟨_,runL_snoc hrun hr⟩
variable {a b:Option Addr} {n c m d:Nat}
theorem re_three (V:VbIs W0 T p n1 n2 n0 f g u) {gv gf:Nat} (hw:Below W0.heap.size W0 W) (hgv:Bx W gv a n c b m d) (hgf:Boxed W gf 54 (.iface T p)) (h1:AvQ W a n c b m d x) (hl:x.1≠[]) (h0:nI x.1≠0):
 Calls Tryz.prog 41 #[.pointer (some ⟨gv,0,none⟩),.pointer (some ⟨gf,0,none⟩)] W (VE (rdL g (itA x.1 x.2 0) (iT x).tail) (fun w'=>Below W.heap.size W w')):=by
 obtain⟨k0,hk0⟩:∃k,nI x.1=k+1:=⟨nI x.1-1,by omega⟩
 have e0:((n:Int)==0)=false:=beq_eq_false_iff_ne.2 (by have:=h1.len;intro e;exact hl (List.length_eq_zero_iff.1 (by omega)))
 have KM:Hid (∀w,Below W.heap.size W w→Calls Tryz.prog 22 #[.agg #[.slice a n c,.slice b m d]] w (IntEnd ((k0+1:Nat):Int) w)):=Lib.hid fun w hb=>by
  have:=VMany_av (h1.below hb)
  rw[mN_nI hl,hk0]at this
  exact this
 have hkk:((k0:Int)+1==0)=false:=beq_eq_false_iff_ne.2 (by omega)
 have hmf:∀(fn:Fn) (first cap:Array Value) (w:World),(Instr.makeFunc fn first cap).run Tryz.prog w=.ok (.func fn first cap) w:=fun _ _ _ _=>rfl
 have HV:=Lib.hid V
 have HW:=Lib.hid hw
 have HX:=Lib.hid h1
 have HL:=Lib.hid (And.intro hl hk0)
 have h:Lv (fun w=>Bx w W.heap.size none 0 0 none 0 0∧Boxed w (W.heap.size+1) 28 (.int .i64 0)∧Bx w gv a n c b m d∧Boxed w gf 54 (.iface T p)∧Below W.heap.size W w) ((W.alloc (.cells #[.slice none 0 0,.slice none 0 0] 25)).alloc (.cells #[.int .i64 0] 28)):=
  ⟨⟨(Bx.new _ _ _ _ _ _ _).alloc _,by have:=Boxed.new (W.alloc (.cells #[.slice none 0 0,.slice none 0 0] 25)) 28 (.int .i64 0);rwa [World.size_alloc]at this,(hgv.alloc _).alloc _,(hgf.alloc _).alloc _,((Below.refl _ _).alloc (Nat.le_refl _) _).alloc (by simp) _⟩⟩
 clear V hw h1 hl h0 hk0 hgv hgf
 refine(callsIn_wide (n:=9)).1 ?_
 refine callsIn_of_wp_marks Tryz.func41 rfl trivial ?_ rfl
 simp only[Tryz.ntmps41,List.size_toArray,List.length_cons,List.length_nil,Nat.reduceAdd,Nat.reduceSub,Array.replicate_succ,Array.replicate_zero,List.push_toArray,List.append_toArray,List.nil_append,List.cons_append]
 have x1:=h.out.2.2.1.c0
 have x2:=h.out.2.2.1.c1
 gi_wp2
 refine⟨trivial,(callsIn_wide.2 (KM.out _ h.out.2.2.2.2)).mono ?_⟩
 rintro e w1 ⟨rfl,hq⟩
 replace h:=go_to h hq
 have HS1:=Lib.hid h.out.2.1.lt
 clear KM x1 x2 hq
 have hbn:Below w1.heap.size w1 (w1.alloc (.cells #[.slice none 0 0,.slice none 0 0] 25)):=(Below.refl _ _).alloc (Nat.le_refl _) _
 have z1:=(h.out.2.2.2.1.alloc (.cells #[.slice none 0 0,.slice none 0 0] 25)).cell
 gi_wp2
 obtain⟨s1,hs1⟩:∃k,k=w1.heap.size:=⟨_,rfl⟩
 obtain⟨w2,hw2⟩:∃z,z=w1.alloc (.cells #[.slice none 0 0,.slice none 0 0] 25):=⟨_,rfl⟩
 have hz2:w2.heap.size=s1+1:=by rw[hw2,hs1];simp
 have hm2:Bx w2 s1 none 0 0 none 0 0:=by rw[hw2,hs1];exact Bx.new _ _ _ _ _ _ _
 obtain⟨w3,hw3⟩:∃z,z=(w2.alloc (.cells #[.iface T p] 54)).alloc (.cells #[.slice none 0 0,.slice none 0 0] 25):=⟨_,rfl⟩
 have hz3:w3.heap.size=s1+3:=by rw[hw3];simp[hz2]
 have hf3:Boxed w3 (s1+1) 54 (.iface T p):=by rw[hw3,←hz2];exact(Boxed.new w2 _ _).alloc _
 have hn3:Bx w3 (s1+2) none 0 0 none 0 0:=by
  rw[hw3]
  have:=Bx.new (w2.alloc (.cells #[.iface T p] 54)) none 0 0 none 0 0
  rwa [World.size_alloc,hz2]at this
 have hm3:Bx w3 s1 none 0 0 none 0 0:=by rw[hw3];exact(hm2.alloc _).alloc _
 have hb3:Below w1.heap.size w1 w3:=by rw[hw3,hw2];exact(hbn.alloc hbn.size _).alloc (by simp;omega) _
 have KF:Hid (Calls Tryz.prog 43 #[.iface T p] w2 fun e w'=>e=.returned (.func (.func 89) #[] #[.pointer (some ⟨s1+2,0,none⟩),.pointer (some ⟨s1+1,0,none⟩)])∧w3=w'):=Lib.hid ((fold_is T p w2).mono fun e w' ⟨h1,h2⟩=>⟨by rw[h1,hz2],by rw[h2,hw3]⟩)
 rw[←hw2]
 refine⟨trivial,(callsIn_wide.2 KF.out).mono ?_⟩
 rintro e w' ⟨rfl,rfl⟩
 obtain⟨w4,hw4⟩:∃z,z=w3.alloc (.cells #[.func (.func 89) #[] #[.pointer (some ⟨s1+2,0,none⟩),.pointer (some ⟨s1+1,0,none⟩)]] 57):=⟨_,rfl⟩
 have hb4:Below w3.heap.size w3 w4:=by rw[hw4];exact(Below.refl _ _).alloc (Nat.le_refl _) _
 have hz4:w4.heap.size=s1+4:=by rw[hw4];simp[hz3]
 have hx4:Boxed w4 (s1+3) 57 (.func (.func 89) #[] #[.pointer (some ⟨s1+2,0,none⟩),.pointer (some ⟨s1+1,0,none⟩)]):=by rw[hw4,←hz3];exact Boxed.new _ _ _
 replace h:=go_to (go_to h hb3) hb4
 have x1:=h.out.2.2.1.c0
 have x2:=h.out.2.2.1.c1
 have KI:=Lib.hid (items_is (.slice a n c) (.slice b m d) w4)
 rw[hw4]at x1 x2
 have HW4:=Lib.hid hw4
 have HE:=Lib.hid (And.intro hs1 (And.intro hz4 (And.intro hz3 (And.intro hm3 (And.intro hf3 (And.intro hn3 (And.intro hx4 (And.intro hb4 hb3))))))))
 clear KF z1 hbn hw2 hw3 hw4 hz2 hz3 hm2 hf3 hn3 hm3 hb3 hb4 hz4 hx4
 have hnf:=Boxed.new w3 57 Value.nilFunc
 have hsf:∀(a:Addr) (fn:Fn) (first cap:Array Value) (w:World),(store a (.func fn first cap)).run Tryz.prog w=stored Tryz.prog w a (.func fn first cap) .plain:=fun a fn first cap w=>run_store _ w a _ _ rfl
 have hnf0:=hnf.cell
 have hnf1:=hnf.frozen
 rw[←hs1]
 clear hs1 hnf
 gi_wp2
 rw[←HW4.out]
 obtain⟨hs1,hz4,hz3,hm3,hf3,hn3,hx4,hb4,hb3⟩:=HE.out
 refine⟨trivial,(callsIn_wide.2 KI.out).mono ?_⟩
 rintro e w' ⟨rfl,rfl⟩
 rw[hz4]
 obtain⟨wR,hwR⟩:∃z,z=w4.alloc (.cells #[.slice a n c,.slice b m d] 25):=⟨_,rfl⟩
 rw[←hwR]
 have hbR:Below w4.heap.size w4 wR:=by rw[hwR];exact(Below.refl _ _).alloc (Nat.le_refl _) _
 have hzR:wR.heap.size=s1+5:=by rw[hwR];simp[hz4]
 have hgv:Bx wR (s1+4) a n c b m d:=by rw[hwR,←hz4];exact Bx.new _ _ _ _ _ _ _
 have hmR:Bx wR s1 none 0 0 none 0 0:=(hm3.below hb4 hm3.lt).below hbR (by omega)
 have hfR:=boxed_bel (boxed_bel hf3 hb4) hbR
 have hnR:Bx wR (s1+2) none 0 0 none 0 0:=(hn3.below hb4 hn3.lt).below hbR (by omega)
 have hxR:=boxed_bel hx4 hbR
 replace h:=go_to h hbR
 have lS:W.heap.size+2≤s1:=by
  have:=(show w1.heap.size=s1 from hs1.symm)
  have h2:=HS1.out
  omega
 clear hs1 x1 x2 KI hwR hf3 hn3 hm3 hb3 hb4 hx4 hbR HW4 HE
 have hwW:=HW.out.trans (h.out.2.2.2.2.mono HW.out.size)
 have hI0:RdI W W0 T p g x s1 0 wR:=⟨⟨_,_,_,_,_,_,hmR,fun j e=>(by omega)⟩,hxR,h.out.1,h.out.2.1,⟨⟨_,_,_,_,_,_,hnR,fun j e=>(by omega)⟩,hfR,hwW⟩,⟨[],rfl⟩,h.out.2.2.2.2⟩
 have hAR:=HX.out.below h.out.2.2.2.2
 gi_wp2
 refine range_gives2 (N:=k0+1) (En:=EnI x) (Kp:=KpI (s1+4)) rfl (by decide) rfl trivial (enters_of Tryz.func90 (by kernel_rfl) rfl)
  (items_gives 8 hgv hAR HL.out.1 HL.out.2) (fun _ _ _ h g=>h.trans g) (fun _ _ h=>kpI_below h) (fun _ _ _ o' hl h ho=>kpI_put o' h ho (by omega)) (fun _ _ _ h=>enI_size h)
  (RdI W W0 T p g x s1) (RdX W g x (k0+1)) (fun k=>RdI.abs lS HW.out.size (by omega)) (RdX.abs (by omega)) hI0 ?round ?done ?stop
 case round=>
  rintro y i args X hi ⟨ai,ni,ci,bi,mi,di,rfl,hav⟩ hI
  gi_wp2
  refine⟨(Below.refl _ _).alloc (Nat.le_refl _) _,fun Y hP hY=> ?_⟩
  have hbX:Below X.heap.size X (X.alloc (.cells #[.slice ai ni ci,.slice bi mi di] 25)):=(Below.refl _ _).alloc (Nat.le_refl _) _
  have hBI:Bx Y X.heap.size ai ni ci bi mi di:=(hP.block (.inr (Nat.le_refl _))).trans (Bx.new _ _ _ _ _ _ _)
  have hAI:AvQ Y ai ni ci bi mi di (itA x.1 x.2 i):=(AvQ.below hav hbX).soft hP.soft
  have htold:=(frA_ok HV.out.v2 HX.out.rok (by rw[HL.out.2];omega) i (by rw[HL.out.2];exact hi)).1
  have KT:=fo1_is HV.out (gn:=s1+2) (gf:=s1+1) (by have:=HW.out.size;omega) (by omega) hY.fo hAI htold
  have x0:=hBI.c0
  have x1:=hBI.c1
  have y0:=hY.nx.cell
  obtain⟨a0,n0',c0,b0,m0,d0,hN,_⟩:=hY.now
  have HY:=Lib.hid hY
  have HI2:=Lib.hid hi
  have HN:=Lib.hid hN
  clear hP hBI hAI hav hI hbX hY hN hI0 hAR hwW hgv hmR hfR hnR hxR h
  rcases htold with⟨z,hr⟩|⟨k,hr,hk1,hk2⟩
  · rw[hr]at KT
    replace KT:=Lib.hid KT
    have HR:=Lib.hid hr
    clear hr hi
    gi_wp2
    refine⟨trivial,(CallsIn.inRound y (callsIn_wide.2 KT.out)).mono ?_⟩
    rintro e w5 ⟨a6,n6,c6,b6,m6,d6,rfl,hv,hgT,hI5⟩
    replace hv:=hv z rfl
    replace hI5:=hI5 (by simp)
    have hN5:=bx_gn hgT HN.out (show s1≠s1+2 by omega)
    have p0:=hN5.c0
    have p1:=hN5.c1
    have q0:=hN5.f 0
    have q1:=hN5.f 1
    have H5:=Lib.hid (And.intro hv (And.intro hgT hI5))
    clear hv hgT hI5 hN5 x0 x1 y0 KT
    gi_wp2
    exact RdI.next HY.out lS HW.out.size H5.out.2.1 HR.out H5.out.1 H5.out.2.2
  · rw[hr]at KT
    replace KT:=Lib.hid KT
    have HR:=Lib.hid hr
    clear hr hi
    have hk0':¬k=0:=by omega
    gi_wp2
    refine⟨trivial,(CallsIn.inRound y (callsIn_wide.2 KT.out)).mono ?_⟩
    rintro e w5 ⟨a6,n6,c6,b6,m6,d6,rfl,hv,hgT,hI5⟩
    clear hv hI5
    have hN5:=bx_gn hgT HN.out (show s1≠s1+2 by omega)
    have p0:=hN5.c0
    have p1:=hN5.c1
    have q0:=hN5.f 0
    have q1:=hN5.f 1
    have hR5:Bx ((w5.setCell ⟨s1,0,none⟩ (.slice a6 n6 c6)).setCell ⟨s1,1,none⟩ (.slice b6 m6 d6)) W.heap.size none 0 0 none 0 0:=(Below.heap_setCell _ _ _ _ (by show _≠s1;omega)).trans ((Below.heap_setCell _ _ _ _ (by show _≠s1;omega)).trans (bx_gn hgT HY.out.rs (show W.heap.size≠s1+2 by omega)))
    have hE5:Boxed ((w5.setCell ⟨s1,0,none⟩ (.slice a6 n6 c6)).setCell ⟨s1,1,none⟩ (.slice b6 m6 d6)) (W.heap.size+1) 28 (.int .i64 0):=(Below.heap_setCell _ _ _ _ (by show _≠s1;omega)).trans ((Below.heap_setCell _ _ _ _ (by show _≠s1;omega)).trans (boxed_gn hgT HY.out.er (show W.heap.size+1≠s1+2 by omega)))
    have r0:=hR5.c0
    have r1:=hR5.c1
    have f0:=hR5.f 0
    have f1:=hR5.f 1
    have s0:=hE5.cell
    have u0:=hE5.frozen
    have HG:=Lib.hid hgT
    clear hgT hR5 hE5 hN5 x0 x1 y0 KT
    gi_wp2
    exact RdI.left HY.out lS HI2.out HG.out HR.out _ _ _ _ _ _
 case done=>
  intro D VW hD hI hd
  obtain⟨qs,hrun⟩:=hI.run
  obtain⟨am,nm,cm,bm,mm,dm,hNm,hvm⟩:=hI.now
  rcases rd_fr HV.out.v2 HX.out.rok HL.out.2 with⟨z,hrd,hfr,_⟩|⟨e,_,hbad⟩
  · obtain⟨z',hz',hvz⟩:=hvm k0 rfl
    rw[hfr]at hz'
    injection hz' with hz'
    subst hz'
    have p0:=hNm.c0
    have p1:=hNm.c1
    have r0:=hI.rs.c0
    have r1:=hI.rs.c1
    have f0:=hI.rs.f 0
    have f1:=hI.rs.f 1
    have s0:=hI.er.cell
    have u0:=hI.er.frozen
    have HI3:=Lib.hid (And.intro hI (And.intro hvz hrd))
    have HD:=Lib.hid (And.intro hd hD)
    clear hI hvz hrd hfr hvm hNm hrun hd hI0 hAR hwW hgv hmR hfR hnR hxR h
    gi_wp2
    obtain⟨g0,g1,g2,g3,g4⟩:=jn_told (k:=0) HI3.out.1.rs HI3.out.1.er HD.out.1 (show W.heap.size+1<D by have:=HD.out.2;omega) am bm nm cm mm dm
    refine⟨by simp,.inl ⟨_,_,rfl,run_takeDeferred g2,?_⟩⟩
    have b0:=g0.c0
    have b1:=g0.c1
    have b2:=g1.cell
    refine⟨.tuple #[.agg #[.slice am nm cm,.slice bm mm dm],.int .i64 0],by simp[results,Tryz.results41,Tryz.f41,go_sem,b0,b1,b2],?_⟩
    rw[HI3.out.2.2]
    refine⟨_,_,_,_,_,_,rfl,fun q e=> ?_,below_none (g4 W none (grown_no' HI3.out.1.bl) (Nat.le_refl _))⟩
    injection e with e
    subst e
    exact g3 rfl _ _ _ _ _ _ HI3.out.2.1
  · rw[hrun]at hbad
    injection hbad with hbad _
    cases hbad
 case stop=>
  intro D VW hD hX hd
  obtain⟨k,h1,h2,h3⟩:=hX.out
  have HX2:=Lib.hid hX
  have HD:=Lib.hid hD
  clear hI0 hAR hwW hgv hmR hfR hnR hxR h
  gi_wp2
  refine⟨by simp,.inl ⟨_,_,rfl,run_takeDeferred hd,?_⟩⟩
  have hr2:Bx (VW.putObj D (.deferred none)) W.heap.size none 0 0 none 0 0:=(World.putObj_heap_other (by have:=HD.out;omega)).trans h2
  have b0:=hr2.c0
  have b1:=hr2.c1
  have b2:=(put_boxed h3 (.deferred none) (show W.heap.size+1≠D by have:=HD.out;omega)).cell
  refine⟨.tuple #[.agg #[.slice none 0 0,.slice none 0 0],.int .i64 k],by simp[results,Tryz.results41,Tryz.f41,go_sem,b0,b1,b2],?_⟩
  rcases rd_fr HV.out.v2 HX.out.rok HL.out.2 with⟨z,_,_,qs,hqs⟩|⟨e,hrd,hbad⟩
  · rw[h1]at hqs
    injection hqs with hqs _
    cases hqs
  · rw[h1]at hbad
    injection hbad with _ hbad
    subst hbad
    rw[hrd]
    exact⟨_,_,_,_,_,_,rfl,fun q e=>(by cases e),put_below HX2.out.bl _ (by have:=HD.out;omega)⟩
end
end Go.Proofs.YtbijncndjlmmdaaGreatDoor
namespace Go.Proofs.YtbijncndjlmmdaaGreatDoor
set_option linter.unusedVariables false
set_option linter.unusedSimpArgs false
open Go.RowKit
section
variable {W W0 w:World} {T:TypeId} {p:Value} {n1 n2 n0:FuncId} {f:Ar→Option Ar×Int} {g:Ar→Ar→Option Ar×Int} {u:Option Ar} {x:Ar} {a b:Option Addr} {n c m d:Nat}
theorem ve_two {gr n0 c0 m0 d0:Nat} {a0 b0:Option Addr} {r:Option Ar×Int} (h:Bx w gr a0 n0 c0 b0 m0 d0) (he:Boxed w (gr+1) 28 (.int .i64 0)) (hb:Below W.heap.size W w) (hg:W.heap.size≤gr) (hv:∀q,r.1=some q→Vl w a n b m q.1 (q.2.map S)) (ht:Told r):
 Bx (((w.setCell ⟨gr,0,none⟩ (.slice a n c)).setCell ⟨gr,1,none⟩ (.slice b m d)).setCell ⟨gr+1,0,none⟩ (.int .i64 r.2)) gr a n c b m d∧Boxed (((w.setCell ⟨gr,0,none⟩ (.slice a n c)).setCell ⟨gr,1,none⟩ (.slice b m d)).setCell ⟨gr+1,0,none⟩ (.int .i64 r.2)) (gr+1) 28 (.int .i64 r.2)∧
 VE r (fun w'=>Below W.heap.size W w') (.returned (.tuple #[.agg #[.slice a n c,.slice b m d],.int .i64 r.2])) (((w.setCell ⟨gr,0,none⟩ (.slice a n c)).setCell ⟨gr,1,none⟩ (.slice b m d)).setCell ⟨gr+1,0,none⟩ (.int .i64 r.2)):=by
 have hE2:Boxed ((w.setCell ⟨gr,0,none⟩ (.slice a n c)).setCell ⟨gr,1,none⟩ (.slice b m d)) (gr+1) 28 (.int .i64 0):=((Below.heap_setCell _ _ _ _ (by simp)).trans (Below.heap_setCell _ _ _ _ (by simp))).trans he
 refine⟨(h.set a n c b m d).setOther (by simp) _,hE2.set _,⟨a,n,c,b,m,d,rfl,fun q e=> ?_,(below_made hb hg _ _).setCell (p:=⟨gr+1,0,none⟩) (by show _≤gr+1;omega) _⟩⟩
 have h0:r.2=0:=by
  rcases ht with⟨q',e'⟩|⟨k,e',_⟩
  · rw[e']
  · rw[e']at e;cases e
 have hv':=hv q e
 rw[h0]
 exact⟨(h.sl hv'.s _ _).again hE2.cell,(h.st hv'.t _ _).notext hE2.cell (fun s e=>by cases e),hv'.mm⟩
theorem head2 (W:World) {gv gf:Nat} (hgv:Bx W gv a n c b m d) (hgf:Boxed W gf 54 (.iface T p)):
 Lv (fun w=>Bx w W.heap.size none 0 0 none 0 0∧Boxed w (W.heap.size+1) 28 (.int .i64 0)∧Bx w gv a n c b m d∧Boxed w gf 54 (.iface T p)∧Below W.heap.size W w) ((W.alloc (.cells #[.slice none 0 0,.slice none 0 0] 25)).alloc (.cells #[.int .i64 0] 28)):=
 ⟨⟨(Bx.new _ _ _ _ _ _ _).alloc _,by have:=Boxed.new (W.alloc (.cells #[.slice none 0 0,.slice none 0 0] 25)) 28 (.int .i64 0);rwa [World.size_alloc]at this,(hgv.alloc _).alloc _,(hgf.alloc _).alloc _,((Below.refl _ _).alloc (Nat.le_refl _) _).alloc (by simp) _⟩⟩
theorem re_zero {gv gf:Nat} (hgv:Bx W gv a n c b m d) (hgf:Boxed W gf 54 (.iface T p)) (h1:AvQ W a n c b m d x) (hl:x.1=[]):
 Calls Tryz.prog 41 #[.pointer (some ⟨gv,0,none⟩),.pointer (some ⟨gf,0,none⟩)] W (VE (some x,0) (fun w'=>Below W.heap.size W w')):=by
 have h:=head2 W hgv hgf
 have e0:n=0:=by rw[←h1.len,hl];rfl
 subst e0
 have HX:=Lib.hid h1
 clear h1 hl hgv hgf
 go_enter Tryz.func41,Tryz.ntmps41
 go_upto_region 1 with fail
 obtain⟨w4,hw4⟩:∃z,z=(W.alloc (.cells #[.slice none 0 0,.slice none 0 0] 25)).alloc (.cells #[.int .i64 0] 28):=⟨_,rfl⟩
 rw[←hw4]at h ⊢
 clear hw4
 have x1:=h.out.2.2.1.c0
 have x2:=h.out.2.2.1.c1
 have y0:=h.out.1.c0
 have y3:=h.out.1.c1
 have f0:=h.out.1.f 0
 have f1:=h.out.1.f 1
 have s0:=h.out.2.1.cell
 have s1:=h.out.2.1.frozen
 have HH:=Lib.hid h
 clear h
 go_wp2_with fail
 obtain⟨g0,g1,g2⟩:=ve_two (r:=(some x,0)) (a:=a) (n:=0) (c:=c) (b:=b) (m:=m) (d:=d) HH.out.out.1 HH.out.out.2.1 HH.out.out.2.2.2.2 (Nat.le_refl _) (fun q e=>by injection e with e;subst e;exact(HX.out.below HH.out.out.2.2.2.2).v) (.yes _)
 have r0:=g0.c0
 have r1:=g0.c1
 have r2:=g1.cell
 exact bodyPost_ret (v:=.tuple #[.agg #[.slice a 0 c,.slice b m d],.int .i64 0]) (by simp[results,Tryz.results41,go_sem,r0,r1,r2]) rfl g2
theorem noA_told (h:Rok u):Told (noA u x):=by
 unfold noA
 cases u with
 |none=>exact .no ⟨by decide,by decide⟩
 |some v=>exact told_if (fun _=>.yes _) (fun _=>.no ⟨by decide,by decide⟩)
theorem re_none (V:VbIs W0 T p n1 n2 n0 f g u) {gv gf:Nat} (hw:Below W0.heap.size W0 W) (hgv:Bx W gv a n c b m d) (hgf:Boxed W gf 54 (.iface T p)) (h1:AvQ W a n c b m d x) (hl:x.1≠[]) (h0:nI x.1=0):
 Calls Tryz.prog 41 #[.pointer (some ⟨gv,0,none⟩),.pointer (some ⟨gf,0,none⟩)] W (VE (noA u x) (fun w'=>Below W.heap.size W w')):=by
 have h:=head2 W hgv hgf
 have e0:((n:Int)==0)=false:=beq_eq_false_iff_ne.2 (by have:=h1.len;intro e;exact hl (List.length_eq_zero_iff.1 (by omega)))
 have KM:Hid (∀w,Below W.heap.size W w→Calls Tryz.prog 22 #[.agg #[.slice a n c,.slice b m d]] w (IntEnd 0 w)):=Lib.hid fun w hb=>by
  have:=VMany_av (h1.below hb)
  rw[mN_nI hl,h0]at this
  exact this
 have KC:=Lib.hid (fun w (hb:Below W.heap.size W w)=>no_is V (hw.trans (hb.mono hw.size)) (h1.below hb))
 have HT:=Lib.hid (noA_told (x:=x) V.vu)
 generalize noA u x=r at*
 clear V hw h1 hl h0 hgv hgf
 go_enter Tryz.func41,Tryz.ntmps41
 have x1:=h.out.2.2.1.c0
 have x2:=h.out.2.2.1.c1
 go_wp2_with fail
 refine(KM.out _ h.out.2.2.2.2).mono ?_
 rintro e w1 ⟨rfl,hq⟩
 replace h:=go_to h hq
 clear KM x1 x2 hq
 have x1:=h.out.2.2.1.c0
 have x2:=h.out.2.2.1.c1
 have z1:=h.out.2.2.2.1.cell
 go_wp2_with fail
 refine(KC.out _ h.out.2.2.2.2).mono ?_
 rintro e w2 ⟨ar,nr,cr,br,mr,dr,rfl,hv,hq⟩
 replace h:=go_to h hq
 have HV:=Lib.hid hv
 clear hv hq x1 x2 z1
 have y0:=h.out.1.c0
 have y3:=h.out.1.c1
 have f0:=h.out.1.f 0
 have f1:=h.out.1.f 1
 have s0:=h.out.2.1.cell
 have s1:=h.out.2.1.frozen
 have HH:=Lib.hid h
 clear h
 go_wp2_with fail
 obtain⟨g0,g1,g2⟩:=ve_two (r:=r) (a:=ar) (n:=nr) (c:=cr) (b:=br) (m:=mr) (d:=dr) HH.out.out.1 HH.out.out.2.1 HH.out.out.2.2.2.2 (Nat.le_refl _) HV.out HT.out
 have r0:=g0.c0
 have r1:=g0.c1
 have r2:=g1.cell
 exact bodyPost_ret (v:=.tuple #[.agg #[.slice ar nr cr,.slice br mr dr],.int .i64 r.2]) (by simp[results,Tryz.results41,go_sem,r0,r1,r2]) rfl g2
theorem re_is (V:VbIs W0 T p n1 n2 n0 f g u) {gv gf:Nat} (hw:Below W0.heap.size W0 W) (hgv:Bx W gv a n c b m d) (hgf:Boxed W gf 54 (.iface T p)) (h1:AvQ W a n c b m d x):
 Calls Tryz.prog 41 #[.pointer (some ⟨gv,0,none⟩),.pointer (some ⟨gf,0,none⟩)] W (VE (rdA g u (some x)) (fun w'=>Below W.heap.size W w')):=by
 by_cases hl:x.1=[]
 · rw[show rdA g u (some x)=(some x,0)from if_pos hl]
   exact re_zero hgv hgf h1 hl
 · by_cases h0:nI x.1=0
   · have e:rdA g u (some x)=noA u x:=by
      unfold rdA noA
      simp only
      rw[if_neg hl,if_pos h0]
      cases u with
      |none=>rfl
      |some v=>simp[hl]
     rw[e]
     exact re_none V hw hgv hgf h1 hl h0
   · rw[show rdA g u (some x)=rdL g (itA x.1 x.2 0) (iT x).tail from(if_neg hl).trans (if_neg h0)]
     exact re_three V hw hgv hgf h1 hl h0
theorem mayNot_is {l:List Int} {es:List ByteArray} {o:Option Ar} (h1:Av W a n c b m d l es o):Calls Tryz.prog 69 #[.agg #[.slice a n c,.slice b m d]] W (BoolEnd o.isNone W):=by
 have hb0:Below W.heap.size W (W.alloc (.cells #[.slice a n c,.slice b m d] 25)):=(Below.refl _ _).alloc (Nat.le_refl _) _
 have KV:=Lib.hid (VMay_av (h1.below hb0))
 clear h1
 go_enter Tryz.func69,Tryz.ntmps69
 go_wp2_with fail
 refine KV.out.mono ?_
 rintro e w1 ⟨rfl,hq⟩
 go_wp2_with fail
 go_ret
 refine⟨?_,hb0.trans (hq.mono hb0.size)⟩
 cases o<;>rfl
structure InR (W:World) (h:Nat) (rs:List Rc) (os:List (Option Ar)):Prop where
 len:rs.length=os.length
 at_:∀j (hj:j<rs.length) (hj2:j<os.length),W.cell? ⟨h,j*2,none⟩=some (.slice rs[j].a rs[j].n rs[j].c)∧W.cell? ⟨h,j*2+1,none⟩=some (.slice rs[j].b rs[j].m rs[j].d)∧∃l es,Av W rs[j].a rs[j].n rs[j].c rs[j].b rs[j].m rs[j].d l es os[j]
theorem InR.below {h:Nat} {rs:List Rc} {os:List (Option Ar)} (k:InR W h rs os) (hb:Below W.heap.size W w):InR w h rs os:=⟨k.len,fun j hj hj2=>by
 obtain⟨h1,h2,l,es,h3⟩:=k.at_ j hj hj2
 exact⟨(hb.cell (p:=⟨h,j*2,none⟩) (World.block_lt_of_cell? W _ h1)).trans h1,(hb.cell (p:=⟨h,j*2+1,none⟩) (World.block_lt_of_cell? W _ h2)).trans h2,l,es,h3.below hb⟩⟩
theorem Index_is {h:Nat} {rs:List Rc} {os:List (Option Ar)} (hR:InR W h rs os) (hk:rs.length≤1000):
 Calls Tryz.prog 122 #[.slice (some ⟨h,0,none⟩) rs.length rs.length,.func (.func 69) #[] #[]] W fun e w'=>∃v:Int,e=.returned (.int .i64 v)∧decide (0≤v)=os.any (·.isNone)∧Below W.heap.size W w':=by
 have HR:=Lib.hid hR
 obtain⟨k,hkk⟩:∃k,rs.length=k:=⟨_,rfl⟩
 have HK:=Lib.hid hkk
 rw[hkk]at hk ⊢
 clear hR hkk
 go_enter Tryz.func122,Tryz.ntmps122
 go_wp2_with fail
 go_loopw [8] (fun iv wr=>∃i:Nat,iv=.int .i64 i∧i≤k∧(∀j (hj:j<os.length),j<i→os[j].isNone=false)∧Below W.heap.size W wr) (fun iv _=>k-(intOf iv).toNat)
 case atStart=>exact⟨0,rfl,Nat.zero_le _,fun j hj h0=>absurd h0 (Nat.not_lt_zero _),Below.refl _ _⟩
 case round=>
  obtain⟨i,rfl,hi,hall,hb⟩:=hrel
  by_cases hlt:i<k
  · have e2:(i:Int)<(k:Int):=by omega
    have hi1:i<rs.length:=by rw[HK.out];exact hlt
    have hi2:i<os.length:=by rw[←HR.out.len];exact hi1
    obtain⟨c0,c1,l,es,hav⟩:=(HR.out.below hb).at_ i hi1 hi2
    have KM:=mayNot_is hav
    generalize rs[i]=rc at*
    obtain⟨ra,rn,rcc,rb,rm,rd⟩:=rc
    simp only at c0 c1 KM
    have HALL:=Lib.hid (And.intro hall hi2)
    obtain⟨o,ho⟩:∃o,os[i]=o:=⟨_,rfl⟩
    rw[ho]at KM
    replace KM:=Lib.hid KM
    have HO:=Lib.hid ho
    have HB:=Lib.hid hb
    clear hav hall ho hb
    go_wp2_with fail
    refine KM.out.mono ?_
    rintro e w2 ⟨rfl,hq⟩
    have hq2:=HB.out.trans (hq.mono HB.out.size)
    cases o with
    |none=>
     go_wp2_with fail
     go_ret
     refine⟨i,rfl,?_,hq2⟩
     rw[decide_eq_true (by omega)]
     exact(List.any_eq_true.2 ⟨os[i],List.getElem_mem _,by rw[HO.out];rfl⟩).symm
    |some z=>
     go_wp2_with fail
     go_roundw
     case rel=>
      refine⟨i+1,by go_num,by omega,fun j hj hji=> ?_,hq2⟩
      by_cases e:j=i
      · subst e;rw[HO.out];rfl
      · exact HALL.out.1 j hj (by omega)
     case measure=>simp[intOf];omega
  · have e2:¬(i:Int)<(k:Int):=by omega
    have HALL:=Lib.hid (And.intro hall hb)
    clear hall hb
    go_wp2_with fail
    go_ret
    refine⟨-1,rfl,?_,HALL.out.2⟩
    rw[decide_eq_false (by omega)]
    symm
    rw[List.any_eq_false]
    intro z hz
    obtain⟨j,hj,rfl⟩:=List.getElem_of_mem hz
    have:=HALL.out.1 j hj (by have:=HR.out.len;have:=HK.out;omega)
    simp[this]
theorem Contains_is {h:Nat} {rs:List Rc} {os:List (Option Ar)} (hR:InR W h rs os) (hk:rs.length≤1000):
 Calls Tryz.prog 68 #[.slice (some ⟨h,0,none⟩) rs.length rs.length,.func (.func 69) #[] #[]] W (BoolEnd (os.any (·.isNone)) W):=by
 have K:=Lib.hid (Index_is hR hk)
 generalize rs.length=k at*
 clear hR
 go_enter Tryz.func68,Tryz.ntmps68
 go_wp2_with fail
 refine K.out.mono ?_
 rintro e w1 ⟨v,rfl,hv,hq⟩
 have HV:=Lib.hid hv
 clear hv
 go_wp2_with fail
 go_ret
 refine⟨?_,hq⟩
 show Ending.returned (Value.bool (decide (0≤v)))=_
 rw[HV.out]
end
end Go.Proofs.YtbijncndjlmmdaaGreatDoor

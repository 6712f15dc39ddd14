import Derived.Test.YtbijncndjlmmdaaGreatDoorMar
import Derived.Test.YtbijncndjlmmdaaGreatDoorMal
set_option maxHeartbeats 6400000
set_option maxRecDepth 100000
namespace Go.Proofs.YtbijncndjlmmdaaGreatDoor
set_option linter.unusedVariables false
set_option linter.unusedSimpArgs false
open Go.RowKit
attribute [local go_sem] Oper.semAt_some
structure DvI (k:Nat) (ps:List (Int×Int)) (w1:World) (i:Nat) (W:World):Prop where
 row:∃v zs,Boxed W w1.heap.size 23 v∧W.ownsRow (w1.heap.size+4) 9 1 v i (valsS (zs.map S))∧SpI k ps i zs
 bel:Below w1.heap.size w1 W
 sz:w1.heap.size+4≤W.heap.size
structure DvX (k:Nat) (ps:List (Int×Int)) (g:Nat) (w0:World) (W:World):Prop where
 out:∃e,spL k ps=(none,e)∧Bx W g none 0 0 none 0 0∧Boxed W (g+1) 28 (.int .i64 e)
 bel:Below w0.heap.size w0 W
section
variable {k i g:Nat} {ps:List (Int×Int)} {w0 w1 W:World}
theorem DvI.abs:Abs (w1.heap.size+4) (w1.heap.size+3) (DvI k ps w1 i) where
 own:=fun A A' h hg=>by
  obtain⟨v,zs,h1,h2,h3⟩:=h.row
  exact⟨⟨v,zs,h1.kept hg (by simp),h2.kept hg (not_row h2 (by omega)),h3⟩,h.bel.grown hg h.bel.size (fun k e=>by cases e;omega),Nat.le_trans h.sz hg.size⟩
 put:=fun A l o o' h hl ho hc=>by
  obtain⟨v,zs,h1,h2,h3⟩:=h.row
  exact⟨⟨v,zs,put_boxed h1 _ (by omega),ownsRow_putObj h2 _ ho hc,h3⟩,put_below h.bel _ (by omega),by rw[World.putObj_size];exact h.sz⟩
theorem DvX.abs (hg:g+1<w1.heap.size) (h0:w0.heap.size≤g):Abs (w1.heap.size+4) (w1.heap.size+3) (DvX k ps g w0) where
 own:=fun A A' h hgr=>by
  obtain⟨e,h1,h2,h3⟩:=h.out
  exact⟨⟨e,h1,(hgr.block g h2.lt (fun e=>by injection e with e;omega)).trans h2,h3.kept hgr (fun e=>by injection e with e;omega)⟩,h.bel.grown hgr h.bel.size (fun k e=>by cases e;omega)⟩
 put:=fun A l o o' h hl ho hc=>by
  obtain⟨e,h1,h2,h3⟩:=h.out
  exact⟨⟨e,h1,(World.putObj_heap_other (by omega)).trans h2,put_boxed h3 _ (by omega)⟩,put_below h.bel _ (by omega)⟩
theorem DvI.next {W w5 w6:World} {v v':Value} {tmp:Obj} {zs:List Int} {z:Int} (h:DvI k ps w1 i W) (hv:Boxed W w1.heap.size 23 v) (hr:W.ownsRow (w1.heap.size+4) 9 1 v i (valsS (zs.map S)))
 (hI:SpI k ps (i+1) (zs++[z])) (hb:Below W.heap.size W w5) (ho:w6.ownsRow (w1.heap.size+4) 9 1 v' (i+1) (valsS ((zs++[z]).map S))) (hgr:(w5.alloc tmp).grownBy w6 v.ownBlock):
 Boxed w6 w1.heap.size 23 v∧KeepsOthers W (w6.setCell ⟨w1.heap.size,0,none⟩ v')∧PrK w1 (w1.heap.size+1) W (w6.setCell ⟨w1.heap.size,0,none⟩ v')∧DvI k ps w1 (i+1) (w6.setCell ⟨w1.heap.size,0,none⟩ v'):=by
 have hs:=h.sz
 have hs5:=Nat.le_trans hs hb.size
 have hv5:Boxed w5 w1.heap.size 23 v:=below_boxed hv hb hv.lt
 have hr5:=own_below hr hb
 have hfar:∀b,b<w1.heap.size+4→w6.heap[b]?=W.heap[b]?:=fun b hb'=>by
  rw[hgr.block b (by simp;omega) ?_,Below.heap_alloc _ _ _ (by omega),hb.block b (by omega)]
  rcases hr5.2 with⟨rfl,_⟩|⟨g,cap,cur,rfl,hg1,_⟩
  · simp[Value.ownBlock]
  · intro e
    injection e with e
    have:b=g:=e
    omega
 have h3:∀b,b<w1.heap.size+4→b≠w1.heap.size→(w6.setCell ⟨w1.heap.size,0,none⟩ v').heap[b]?=W.heap[b]?:=fun b hb' hne=>(Below.heap_setCell w6 ⟨w1.heap.size,0,none⟩ v' b (by simpa using hne)).trans (hfar b hb')
 obtain⟨a1,a2,a3,a4,a5⟩:=Boxed.appended (n₀:=w1.heap.size) hv5 (by decide) (weak_row hr5 (by omega)) (by omega) (by omega) (weak_row ho (by omega)) hgr
 refine⟨a1,(keeps_below hb).trans a4,fun b hb'=>h3 b (by omega) (by omega),⟨⟨v',zs++[z],a2,?_,hI⟩,(h.bel.trans (hb.mono (by omega))).trans a5,Nat.le_trans hs5 a4.size⟩⟩
 exact ho.kept (grownBy_setCell' w6 w1.heap.size v') (not_row ho (by omega))
end
theorem pl_lt {l m:List Int} {N n i:Nat} (hm:meE l m=0) (hN:pr (meV l m)=N) (h:(n:Int)=pr l) (hi:i<N):(if nx l then 0 else i)<n:=by
 by_cases h0:l=[]
 · subst h0
   have:(n:Int)=1:=h
   show 0<n
   omega
 · have e:nx l=false:=decide_eq_false h0
   rw[e]
   show i<n
   have hv:meV l m=l:=by
    unfold meE at hm
    unfold meV
    split
    · rfl
    · rename_i hno
      rw[if_neg]at hm
      · cases hm
      · rintro(h1|h1|h1)
        · exact hno (.inl h1)
        · exact hno (.inr h1)
        · exact h0 h1
   rw[hv]at hN
   omega
def DvEnd (k:Nat) (ps:List (Int×Int)) (l:List Int) (W:World) (e:Ending) (W':World):Prop:=
 (∃zs,spL k ps=(some zs,0)∧AEnd l (zs.map S) 0 W e W')∨∃ec,spL k ps=(none,ec)∧AEnd [] [] ec W e W'
def dvW (W:World) (op:ByteArray) (v u:Array Value):World:=((((W.alloc (.cells #[.string op] 9)).alloc (.cells v 25)).alloc (.cells u 25)).alloc (.cells #[.slice none 0 0,.slice none 0 0] 25)).alloc (.cells #[.int .i64 0] 28)
structure DvB (g:Nat) (op:ByteArray) (v u:Array Value) (W:World):Prop where
 o:Boxed W g 9 (.string op)
 v:W.heap[g+1]?=some (.cells v 25 (0,0))
 u:W.heap[g+2]?=some (.cells u 25 (0,0))
 r:Bx W (g+3) none 0 0 none 0 0
 e:Boxed W (g+4) 28 (.int .i64 0)
theorem DvB.below {g:Nat} {op:ByteArray} {v u:Array Value} {W W':World} (h:DvB g op v u W) (hb:Below W.heap.size W W'):DvB g op v u W':=by
 have l:=h.e.lt
 exact⟨(hb.block _ (by omega)).trans h.o,(hb.block _ (by omega)).trans h.v,(hb.block _ (by omega)).trans h.u,(hb.block _ (by omega)).trans h.r,(hb.block _ (by omega)).trans h.e⟩
theorem dvW_is (W:World) (op:ByteArray) (v u:Array Value):DvB W.heap.size op v u (dvW W op v u)∧Below W.heap.size W (dvW W op v u):=by
 unfold dvW
 obtain⟨h1,h2,h3,hb⟩:=rows3 W (.cells #[.string op] 9) (.cells v 25) (.cells u 25)
 have s3:(((W.alloc (.cells #[.string op] 9)).alloc (.cells v 25)).alloc (.cells u 25)).heap.size=W.heap.size+3:=by simp
 generalize ((W.alloc (.cells #[.string op] 9)).alloc (.cells v 25)).alloc (.cells u 25)=w3 at*
 obtain⟨h4,h5,hb2⟩:=rows2 w3 (.cells #[.slice none 0 0,.slice none 0 0] 25) (.cells #[.int .i64 0] 28)
 rw[s3]at h4 h5
 exact⟨⟨(hb2.block _ (by omega)).trans h1,(hb2.block _ (by omega)).trans h2,(hb2.block _ (by omega)).trans h3,h4,h5⟩,hb.trans (hb2.mono (by omega))⟩
theorem DvB.left {k g:Nat} {ps:List (Int×Int)} {op:ByteArray} {v u:Array Value} {w0 w5:World} {ec:Int} (h:DvB g op v u w5) (hb:Below w0.heap.size w0 w5) (hg:w0.heap.size=g) (hs:spL k ps=(none,ec)):
 KeepsOthers w5 (((w5.setCell ⟨g+3,0,none⟩ (.slice none 0 0)).setCell ⟨g+3,1,none⟩ (.slice none 0 0)).setCell ⟨g+4,0,none⟩ (.int .i64 ec))∧DvX k ps (g+3) w0 (((w5.setCell ⟨g+3,0,none⟩ (.slice none 0 0)).setCell ⟨g+3,1,none⟩ (.slice none 0 0)).setCell ⟨g+4,0,none⟩ (.int .i64 ec)):=by
 refine⟨((KeepsOthers.setCell _ _ _).trans (KeepsOthers.setCell _ _ _)).trans (KeepsOthers.setCell _ _ _),⟨ec,hs,(h.r.set none 0 0 none 0 0).setOther (by simp) _,?_⟩,((hb.setCell (p:=⟨g+3,0,none⟩) (by simp;omega) _).setCell (p:=⟨g+3,1,none⟩) (by simp;omega) _).setCell (p:=⟨g+4,0,none⟩) (by simp;omega) _⟩
 have h1:Boxed ((w5.setCell ⟨g+3,0,none⟩ (.slice none 0 0)).setCell ⟨g+3,1,none⟩ (.slice none 0 0)) (g+4) 28 (.int .i64 0):=((Below.heap_setCell _ _ _ _ (by simp)).trans (Below.heap_setCell _ _ _ _ (by simp))).trans h.e
 exact h1.set _
theorem Sl.collected {W:World} {a:Option Addr} {n:Nat} {l:List Int} (h:Sl W a n l) {D:Nat} (hd:W.heap[D]?=some (.deferred (some []))) (o:Obj):Sl (W.putObj D o) a n l:=by
 refine⟨h.1,fun hn=> ?_⟩
 obtain⟨g,off,e,hc⟩:=h.2 hn
 refine⟨g,off,e,fun j hj=> ?_⟩
 have hne:g≠D:=by
  rintro rfl
  have:=hc j hj
  simp[World.cell?,hd]at this
 exact(World.cell?_of_block (a:=⟨g,off+j,none⟩) (World.putObj_heap_other hne)).trans (hc j hj)
theorem DvB.filled {g D:Nat} {op:ByteArray} {v u:Array Value} {w0 w5:World} (h:DvB g op v u w5) (hb:Below w0.heap.size w0 w5) (hg:w0.heap.size=g) {a:Option Addr} {N c S:Nat} {xs:List Value} (hr:w5.ownsRow S 9 1 (.slice a N c) N xs) (hS:g+4<S)
 {a3:Option Addr} {n3:Nat} {l:List Int} (hl:Sl w5 a3 n3 l) (hd:w5.heap[D]?=some (.deferred (some []))) (hD:g+4<D) (a':Option Addr) (n' c':Nat) (b':Option Addr) (m' d':Nat):
 Bx ((((w5.setCell ⟨g+3,0,none⟩ (.slice a' n' c')).setCell ⟨g+3,1,none⟩ (.slice b' m' d')).setCell ⟨g+4,0,none⟩ (.int .i64 0)).putObj D (.deferred none)) (g+3) a' n' c' b' m' d'
 ∧((((w5.setCell ⟨g+3,0,none⟩ (.slice a' n' c')).setCell ⟨g+3,1,none⟩ (.slice b' m' d')).setCell ⟨g+4,0,none⟩ (.int .i64 0)).putObj D (.deferred none)).ownsRow S 9 1 (.slice a N c) N xs
 ∧Sl ((((w5.setCell ⟨g+3,0,none⟩ (.slice a' n' c')).setCell ⟨g+3,1,none⟩ (.slice b' m' d')).setCell ⟨g+4,0,none⟩ (.int .i64 0)).putObj D (.deferred none)) a3 n3 l
 ∧Below w0.heap.size w0 ((((w5.setCell ⟨g+3,0,none⟩ (.slice a' n' c')).setCell ⟨g+3,1,none⟩ (.slice b' m' d')).setCell ⟨g+4,0,none⟩ (.int .i64 0)).putObj D (.deferred none))
 ∧((((w5.setCell ⟨g+3,0,none⟩ (.slice a' n' c')).setCell ⟨g+3,1,none⟩ (.slice b' m' d')).setCell ⟨g+4,0,none⟩ (.int .i64 0))).heap[D]?=some (.deferred (some []))
 ∧Boxed ((((w5.setCell ⟨g+3,0,none⟩ (.slice a' n' c')).setCell ⟨g+3,1,none⟩ (.slice b' m' d')).setCell ⟨g+4,0,none⟩ (.int .i64 0)).putObj D (.deferred none)) (g+4) 28 (.int .i64 0):=by
 have h1:=h.r.set a' n' c' b' m' d'
 have h2:Boxed ((w5.setCell ⟨g+3,0,none⟩ (.slice a' n' c')).setCell ⟨g+3,1,none⟩ (.slice b' m' d')) (g+4) 28 (.int .i64 0):=((Below.heap_setCell _ _ _ _ (by simp)).trans (Below.heap_setCell _ _ _ _ (by simp))).trans h.e
 have hd1:((((w5.setCell ⟨g+3,0,none⟩ (.slice a' n' c')).setCell ⟨g+3,1,none⟩ (.slice b' m' d')).setCell ⟨g+4,0,none⟩ (.int .i64 0))).heap[D]?=some (.deferred (some [])):=
  ((Below.heap_setCell _ _ _ _ (by simp;omega)).trans ((Below.heap_setCell _ _ _ _ (by simp;omega)).trans (Below.heap_setCell _ _ _ _ (by simp;omega)))).trans hd
 have hr1:=own_set (own_set (own_set hr (p:=⟨g+3,0,none⟩) (by simp;omega) (.slice a' n' c')) (p:=⟨g+3,1,none⟩) (by simp;omega) (.slice b' m' d')) (p:=⟨g+4,0,none⟩) (by simp;omega) (.int .i64 0)
 have hl1:=(h.r.sl hl (.slice a' n' c') (.slice b' m' d')).again h2.cell
 refine⟨?_,ownsRow_putObj hr1 _ hd1 rfl,hl1.collected hd1 _,?_,hd1,?_⟩
 · exact(World.putObj_heap_other (by omega)).trans (h1.setOther (by simp) _)
 · exact put_below (((hb.setCell (p:=⟨g+3,0,none⟩) (by simp;omega) _).setCell (p:=⟨g+3,1,none⟩) (by simp;omega) _).setCell (p:=⟨g+4,0,none⟩) (by simp;omega) _) _ (by omega)
 · exact put_boxed (h2.set _) _ (by omega)
theorem SDyad_meet {op:ByteArray} {a1 b1 a2 b2:Option Addr} {n1 c1 m1 d1 n2 c2 m2 d2:Nat} {l m:List Int} {xs ys:List Int} {es fs:List ByteArray} (W:World) (hW:SC W) (ho:op.size≤maxLen) (hk:kdL op.data.toList<11)
 (hV:Vl W a1 n1 b1 m1 l es) (hU:Vl W a2 n2 b2 m2 m fs) (hz1:∀j,j<m1→(es.getD j ByteArray.empty).size≤maxLen) (hz2:∀j,j<m2→(fs.getD j ByteArray.empty).size≤maxLen)
 (A1:AIs l es (some (l,xs))) (A2:AIs m fs (some (m,ys))) (hm:meE l m=0):
 Calls Tryz.prog 153 #[.string op,.agg #[.slice a1 n1 c1,.slice b1 m1 d1],.agg #[.slice a2 n2 c2,.slice b2 m2 d2]] W
  (DvEnd (kdL op.data.toList) (prs (nx l) (nx m) xs ys (prD (meV l m)).toNat) (meV l m) W):=by
 obtain⟨_,e1,s1,p1,q1⟩:=A1.len
 obtain⟨_,e2,s2,p2,q2⟩:=A2.len
 simp only at e1 p1 q1 e2 p2 q2
 have hn1:n1≤20:=by have:=(szE_may.1 s1).len;rw[hV.s.1]at this;omega
 have hn2:n2≤20:=by have:=(szE_may.1 s2).len;rw[hU.s.1]at this;omega
 have hme:szE (meV l m)=0:=by
  unfold meV
  split
  · exact s1
  · split
    · exact s2
    · exact(by decide:szE []=0)
 obtain⟨N,hN⟩:∃N:Nat,pr (meV l m)=N:=⟨(pr (meV l m)).toNat,by have:=(may_pr hme).1;omega⟩
 have hN4:N≤4096:=by have:=(szE_may.1 hme).pr;omega
 rw[prD_is,hN,Int.toNat_natCast]
 obtain⟨hB0,hb0⟩:=dvW_is W op #[.slice a1 n1 c1,.slice b1 m1 d1] #[.slice a2 n2 c2,.slice b2 m2 d2]
 have KO:=fun w (hw:SC w)=>Ops_is op ho w hw
 rw[decide_eq_true hk]at KO
 replace KO:=Lib.hid KO
 have KV:=fun w (hb:Below W.heap.size W w)=>VMay_is (c:=c1) (d:=d1) w (hV.below hb) hz1
 have KU:=fun w (hb:Below W.heap.size W w)=>VMay_is (c:=c2) (d:=d2) w (hU.below hb) hz2
 rw[A1.may]at KV
 rw[A2.may]at KU
 replace KV:=Lib.hid KV
 replace KU:=Lib.hid KU
 refine(callsIn_wide (n:=9)).1 ?_
 refine callsIn_of_wp_marks Tryz.func153 rfl trivial ?_ rfl
 simp only[Tryz.ntmps153,List.size_toArray,List.length_cons,List.length_nil,Nat.reduceAdd,Nat.reduceSub,Array.replicate_succ,Array.replicate_zero,List.push_toArray,List.append_toArray,List.nil_append,List.cons_append]
 have HW:=Lib.hid hW
 have hbw0:=HW.out.below hb0
 gi_wp2
 refine⟨trivial,(callsIn_wide.2 (KO.out _ hbw0)).mono ?_⟩
 rintro e w1 ⟨rfl,hq⟩
 have hB1:=hB0.below hq
 have hb1:=hb0.trans (hq.mono hb0.size)
 clear hB0 hb0 hq hbw0
 have v0:w1.cell? ⟨W.heap.size+1,0,none⟩=some (.slice a1 n1 c1):=by rw[cell_of_row _ _ 0 _ _ _ hB1.v];rfl
 have v1:w1.cell? ⟨W.heap.size+1,1,none⟩=some (.slice b1 m1 d1):=by rw[cell_of_row _ _ 1 _ _ _ hB1.v];rfl
 gi_wp2
 refine⟨trivial,(callsIn_wide.2 (KV.out _ hb1)).mono ?_⟩
 rintro e w2 ⟨rfl,hq⟩
 have hB2:=hB1.below hq
 have hb2:=hb1.trans (hq.mono hb1.size)
 clear hB1 hb1 hq v0 v1
 have v0:w2.cell? ⟨W.heap.size+2,0,none⟩=some (.slice a2 n2 c2):=by rw[cell_of_row _ _ 0 _ _ _ hB2.u];rfl
 have v1:w2.cell? ⟨W.heap.size+2,1,none⟩=some (.slice b2 m2 d2):=by rw[cell_of_row _ _ 1 _ _ _ hB2.u];rfl
 gi_wp2
 refine⟨trivial,(callsIn_wide.2 (KU.out _ hb2)).mono ?_⟩
 rintro e w3 ⟨rfl,hq⟩
 have hB3:=hB2.below hq
 have hb3:=hb2.trans (hq.mono hb2.size)
 clear hB2 hb2 hq v0 v1
 have v0:w3.cell? ⟨W.heap.size+1,0,none⟩=some (.slice a1 n1 c1):=by rw[cell_of_row _ _ 0 _ _ _ hB3.v];rfl
 have v1:w3.cell? ⟨W.heap.size+2,0,none⟩=some (.slice a2 n2 c2):=by rw[cell_of_row _ _ 0 _ _ _ hB3.u];rfl
 have KM:=Meet_c a1 a2 n1 c1 n2 c2 l m w3 (hV.s.below hb3) (hU.s.below hb3) hn1 hn2
 rw[mtE_is,mtV_is,hm]at KM
 replace KM:=Lib.hid KM
 gi_wp2
 refine⟨trivial,(callsIn_wide.2 KM.out).mono ?_⟩
 rintro e w4 ⟨a3,n3,c3,rfl,hsl,hn3,hnc3,hcm3,hq⟩
 have hB4:=hB3.below hq
 have hb4:=hb3.trans (hq.mono hb3.size)
 have hB5:=hB4.below ((Below.refl _ w4).alloc (Nat.le_refl _) (.cells #[.slice none 0 0] 23))
 clear hB3 hb3 hq v0 v1 KM KO KV KU
 have v0:(w4.alloc (.cells #[.slice none 0 0] 23)).cell? ⟨W.heap.size+1,0,none⟩=some (.slice a1 n1 c1):=by rw[cell_of_row _ _ 0 _ _ _ hB5.v];rfl
 have v1:(w4.alloc (.cells #[.slice none 0 0] 23)).cell? ⟨W.heap.size+1,1,none⟩=some (.slice b1 m1 d1):=by rw[cell_of_row _ _ 1 _ _ _ hB5.v];rfl
 have u0:(w4.alloc (.cells #[.slice none 0 0] 23)).cell? ⟨W.heap.size+2,0,none⟩=some (.slice a2 n2 c2):=by rw[cell_of_row _ _ 0 _ _ _ hB5.u];rfl
 have u1:(w4.alloc (.cells #[.slice none 0 0] 23)).cell? ⟨W.heap.size+2,1,none⟩=some (.slice b2 m2 d2):=by rw[cell_of_row _ _ 1 _ _ _ hB5.u];rfl
 have KP:=pairs_is (.slice a1 n1 c1) (.slice b1 m1 d1) (.slice a2 n2 c2) (.slice b2 m2 d2) a3 n3 c3 (meV l m) (w4.alloc (.cells #[.slice none 0 0] 23)) (hsl.below ((Below.refl _ w4).alloc (Nat.le_refl _) _)) hme N hN
 replace KP:=Lib.hid KP
 gi_wp2
 refine⟨trivial,(callsIn_wide.2 KP.out).mono ?_⟩
 rintro e w' ⟨rfl,rfl⟩
 have hF:prF (w4.alloc (.cells #[.slice none 0 0] 23))=.func (.func 213) #[] #[.pointer (some ⟨w4.heap.size+3,0,none⟩),.pointer (some ⟨w4.heap.size+1,0,none⟩),.pointer (some ⟨w4.heap.size+2,0,none⟩)]:=by unfold prF;simp
 have hPr:PrB w4 (w4.heap.size+1) N #[.slice a1 n1 c1,.slice b1 m1 d1] #[.slice a2 n2 c2,.slice b2 m2 d2] (prW (w4.alloc (.cells #[.slice none 0 0] 23)) #[.slice a1 n1 c1,.slice b1 m1 d1] #[.slice a2 n2 c2,.slice b2 m2 d2] N):=by
  have h:=prW_is (w4.alloc (.cells #[.slice none 0 0] 23)) #[.slice a1 n1 c1,.slice b1 m1 d1] #[.slice a2 n2 c2,.slice b2 m2 d2] N
  rw[World.size_alloc]at h
  exact⟨h.bv,h.bw,h.bs,fun b hb=>(h.old b (by simp;omega)).trans (Below.heap_alloc _ _ _ hb)⟩
 have hS:(prW (w4.alloc (.cells #[.slice none 0 0] 23)) #[.slice a1 n1 c1,.slice b1 m1 d1] #[.slice a2 n2 c2,.slice b2 m2 d2] N).heap.size=w4.heap.size+4:=by rw[prW_size];simp
 have hI0:DvI (kdL op.data.toList) (prs (nx l) (nx m) xs ys N) w4 0 (prW (w4.alloc (.cells #[.slice none 0 0] 23)) #[.slice a1 n1 c1,.slice b1 m1 d1] #[.slice a2 n2 c2,.slice b2 m2 d2] N):=by
  have hb:=prW_below (w4.alloc (.cells #[.slice none 0 0] 23)) #[.slice a1 n1 c1,.slice b1 m1 d1] #[.slice a2 n2 c2,.slice b2 m2 d2] N
  refine⟨⟨.slice none 0 0,[],below_boxed (Boxed.new w4 _ _) hb (by simp),World.ownsRow_nil _ _ _ _,SpI.start _ _⟩,((Below.refl _ w4).alloc (Nat.le_refl _) _).trans (hb.mono (by simp)),by rw[hS];exact Nat.le_refl _⟩
 rw[hF]
 generalize prW (w4.alloc (.cells #[.slice none 0 0] 23)) #[.slice a1 n1 c1,.slice b1 m1 d1] #[.slice a2 n2 c2,.slice b2 m2 d2] N=V at*
 clear hF v0 v1 u0 u1 KP hB5
 have hln1:∀i,i<N→(if nx l then 0 else i)<xs.length:=fun i hi=>pl_lt hm hN p1 hi
 have hln2:∀i,i<N→(if nx m then 0 else i)<ys.length:=fun i hi=>by
  refine pl_lt (l:=m) (m:=l) (by rw[←meE_turn];exact hm) (by rw[←meV_turn hm];exact hN) p2 hi
 have hw4:W.heap.size+4<w4.heap.size:=hB4.e.lt
 have hV4:=hV.below hb4
 have hU4:=hU.below hb4
 have HX:=Lib.hid (And.intro A1.2.1 A2.2.1)
 obtain⟨i0,hi0,hz0,hz1',hz2'⟩:=info_parts infoStr
 gi_wp2
 refine range_gives (N:=N) (B:=w4.heap.size+3) (Kp:=PrK w4 (w4.heap.size+1)) rfl (by decide) rfl trivial (enters_of Tryz.func213 (by kernel_rfl) rfl)
  (pairs_gives 8 w4 (w4.heap.size+1) (w4.heap.size+3) N hV4 hU4 (fun i hi=>by rw[←hV.t.1,e1];exact hln1 i hi) (fun i hi=>by rw[←hU.t.1,e2];exact hln2 i hi) (by omega) (by omega) V hPr) (by omega)
  (fun X Y Z h g b hb=>(g b hb).trans (h b hb)) (fun X y o hy b hb=>World.putObj_heap_other (by omega)) (fun _=>rfl)
  (DvI (kdL op.data.toList) (prs (nx l) (nx m) xs ys N) w4) (DvX (kdL op.data.toList) (prs (nx l) (nx m) xs ys N) (W.heap.size+3) W) (fun k=>by rw[hS];exact DvI.abs) (by rw[hS];exact DvX.abs hw4 (by omega)) hI0
  (fun k=>{tmps:=#[.string op,.agg #[.slice a1 n1 c1,.slice b1 m1 d1],.agg #[.slice a2 n2 c2,.slice b2 m2 d2],.pointer (some ⟨W.heap.size,0,none⟩),.pointer (some ⟨W.heap.size+1,0,none⟩),.pointer (some ⟨W.heap.size+1+1,0,none⟩),.pointer (some ⟨W.heap.size+1+1+1,0,none⟩),.pointer (some ⟨W.heap.size+1+1+1+1,0,none⟩),.slice a3 n3 c3,.int .i64 0,.pointer (some ⟨w4.heap.size,0,none⟩),.string (elR (nx l) es k),.string (elR (nx m) fs k),undef,undef,.string op,.bool true,.bool false,.bool false,.agg #[.slice a1 n1 c1,.slice b1 m1 d1],.bool true,.bool false,.bool false,.bool false,.agg #[.slice a2 n2 c2,.slice b2 m2 d2],.bool true,.bool false,.bool false,undef,.tuple #[.slice a3 n3 c3,.int .i64 0],.pointer (some ⟨W.heap.size+1,0,none⟩),.slice a1 n1 c1,.pointer (some ⟨W.heap.size+1+1,0,none⟩),.slice a2 n2 c2,.tuple #[.slice a3 n3 c3,.int .i64 0],.slice a3 n3 c3,.int .i64 0,.int .i64 0,.bool false,undef,undef,.agg #[.slice a1 n1 c1,.slice b1 m1 d1],.agg #[.slice a2 n2 c2,.slice b2 m2 d2],.slice a3 n3 c3,.func (.func 213) #[] #[.pointer (some ⟨w4.heap.size+3,0,none⟩),.pointer (some ⟨w4.heap.size+1,0,none⟩),.pointer (some ⟨w4.heap.size+2,0,none⟩)],.string (elR (nx l) es k),.string (elR (nx m) fs k),undef,undef,undef,undef,undef,undef,undef,undef,undef,undef,undef,undef,undef,undef,undef,undef,undef,undef],defers:=[]}) ?assign ?body ?done ?stop
 case assign=>
  intro y k V1 K hK
  unfold encR
  gi_wp2
  exact hK
 case body=>
  intro y i V1 hi hI
  obtain⟨v,zs,hv,hr,hsp⟩:=hI.row
  obtain⟨a,c,rfl⟩:=own_form hr
  have hbV:Below w4.heap.size w4 V1:=hI.bel
  have hBV:=hB4.below hbV
  have hbW:=hb4.trans (hbV.mono hb4.size)
  have hps:=prs_getD (u:=nx l) (v:=nx m) (xs:=xs) (ys:=ys) hi
  have x1:Is (elR (nx l) es i) (some (xs.getD (if nx l then 0 else i) 0)):=⟨by unfold elR;rw[HX.out.1];exact getD_S (hln1 i hi),getD_bd q1 _⟩
  have x2:Is (elR (nx m) fs i) (some (ys.getD (if nx m then 0 else i) 0)):=⟨by unfold elR;rw[HX.out.2];exact getD_S (hln2 i hi),getD_bd q2 _⟩
  have hd:=dy_ok ho x1 x2
  have hle:i<(prs (nx l) (nx m) xs ys N).length:=by rw[prs_length];exact hi
  have hst:=fun z h=>SpI.step (z:=z) hsp hle h
  have hno:=fun e h=>SpI.stop (e:=e) hsp hle h
  rw[hps]at hst hno
  simp only[dyO]at hd
  simp only at hst hno
  generalize elR (nx l) es i=s1 at*
  generalize elR (nx m) fs i=s2 at*
  generalize xs.getD (if nx l then 0 else i) 0=x at*
  generalize ys.getD (if nx m then 0 else i) 0=y' at*
  obtain⟨o,ec,hdy⟩:∃o ec,dyI (kdL op.data.toList) x y'=(o,ec):=⟨_,_,rfl⟩
  rw[hdy]at hd hst hno
  have KD:=hd V1 (HW.out.below hbW)
  have o0:=hBV.o.cell
  have HI:=Lib.hid hI
  have HR:=Lib.hid hr
  have HV:=Lib.hid hv
  have HB:=Lib.hid hBV
  have HBW:=Lib.hid hbW
  have hlim:=HI.out.sz
  clear hI hr hv hsp hbV hBV hbW hps x1 x2 hd hle
  cases o with
  |none=>
   have hs:=hno ec rfl
   have hec:ec=1∨ec=5∨ec=8:=dyI_no hdy
   clear hst hno hdy
   simp only[T]at KD
   have hec0:¬ec=0:=by omega
   have KD:=Lib.hid KD
   have HS:=Lib.hid hs
   clear hs hec
   gi_wp2
   refine⟨trivial,(CallsIn.inRound y (callsIn_wide.2 KD.out)).mono ?_⟩
   rintro e w5 ⟨rfl,hq⟩
   have hB5:=HB.out.below hq
   have hb5:=HBW.out.trans (hq.mono HBW.out.size)
   have r0:=hB5.r.c0
   have r1:=hB5.r.c1
   have f0:=hB5.r.f 0
   have f1:=hB5.r.f 1
   have r2:=hB5.e.cell
   have f2:=hB5.e.frozen
   have H5:=Lib.hid hB5
   have Hb5:=Lib.hid hb5
   have HQ:=Lib.hid hq
   clear hB5 hb5 hq
   gi_wp2
   obtain⟨g1,g2⟩:=H5.out.left Hb5.out rfl HS.out
   exact⟨(keeps_below HQ.out).trans g1,g2⟩
  |some z=>
   have hz0:=dyI_ok hdy
   subst hz0
   have hsp':=hst z rfl
   have hn1':valsS ((zs++[z]).map S)=valsS (zs.map S)++[.string (S z)]:=by rw[List.map_append];exact valsS_snoc _ _
   clear hst hno hdy
   simp only[T]at KD
   generalize S z=sz at KD hn1'
   have KD:=Lib.hid KD
   have HSP:=Lib.hid hsp'
   have HN1:=Lib.hid hn1'
   clear hsp' hn1'
   gi_wp2
   refine⟨trivial,(CallsIn.inRound y (callsIn_wide.2 KD.out)).mono ?_⟩
   rintro e w5 ⟨rfl,hq⟩
   have c5:=(below_boxed HV.out hq HV.out.lt).cell
   have HR5:=Lib.hid (own_below HR.out hq)
   have HQ:=Lib.hid hq
   have hs5:=hq.size
   clear hq o0
   gi_wp2_with (gi_at_builtin;refine wpListIn_append_own _ rfl _ _ 23 rfl (w4.heap.size+4) 9 i0 (.string ⟨#[]⟩) 1 16 Tryz.underlying23 hi0 hz0 hz1' hz2' rfl (by decide) _ _ _ rfl (HR5.out.alloc _) ⟨w5.heap.size,0,none⟩ 1 1 [.string sz] rfl rfl (cell_one_new _ _ _) (by simp[Value.oneCell']) (by unfold maxLen;omega) (by omega) (by simp;omega) ?_;intro v' w6 hown' hgrow _;obtain⟨g',cap',rfl⟩:=ownsRow_succ hown';rw[←HN1.out]at hown';obtain⟨hv1,hk2,hs2,hi2⟩:=HI.out.next HV.out HR.out HSP.out HQ.out hown' hgrow;have hc1:=hv1.cell;have hf1:=hv1.frozen)
   exact⟨hk2,hs2,hi2⟩
 case done=>
  intro D V2 hD hI hd
  obtain⟨v,zs,hv,hr,hsp⟩:=hI.row
  obtain⟨a,c,rfl⟩:=own_form hr
  have hB2:=hB4.below hI.bel
  have hb2:=hb4.trans (hI.bel.mono hb4.size)
  have hsl2:=hsl.below hI.bel
  have hes:=spL_ok (SpI.ends (by rw[prs_length];exact hsp))
  have hsp2:=SpI.ends (by rw[prs_length];exact hsp:SpI (kdL op.data.toList) (prs (nx l) (nx m) xs ys N) (prs (nx l) (nx m) xs ys N).length zs)
  have q3:=hv.cell
  have r0:=hB2.r.c0
  have r1:=hB2.r.c1
  have f0:=hB2.r.f 0
  have f1:=hB2.r.f 1
  have r2:=hB2.e.cell
  have f2:=hB2.e.frozen
  have HB:=Lib.hid hB2
  have Hb:=Lib.hid hb2
  have HR:=Lib.hid hr
  have HL:=Lib.hid hsl2
  have HS:=Lib.hid hsp2
  have HC:=Lib.hid (own_caps hr)
  clear hI hv hr hsp hB2 hb2 hsl2 hes hsp2 hI0 hPr
  gi_wp2
  obtain⟨hB3,hR3,hL3,hb3,hd3⟩:=HB.out.filled Hb.out rfl HR.out (show W.heap.size+4<w4.heap.size+4 by omega) HL.out hd (show W.heap.size+4<D by omega) a3 n3 c3 a N c
  have b0:=hB3.c0
  have b1:=hB3.c1
  refine⟨by simp,.inl ⟨_,_,rfl,run_takeDeferred hd3.1,?_⟩⟩
  have b2:=hd3.2.cell
  refine⟨.tuple #[.agg #[.slice a3 n3 c3,.slice a N c],.int .i64 0],by simp[results,Tryz.results153,Tryz.f153,go_sem,b0,b1,b2],?_⟩
  exact .inl ⟨zs,HS.out,a3,n3,c3,a,N,c,rfl,⟨hL3,own_st hR3,by omega⟩,⟨hnc3,hcm3,HC.out.1,HC.out.2⟩,hb3⟩
 case stop=>
  intro D V2 hD hX hd
  obtain⟨e,hs,hr,he⟩:=hX.out
  have HX2:=Lib.hid hX
  have r0:=(hr.c0)
  gi_wp2
  refine⟨by simp,.inl ⟨_,_,rfl,run_takeDeferred hd,?_⟩⟩
  have hr2:Bx (V2.putObj D (.deferred none)) (W.heap.size+3) none 0 0 none 0 0:=(World.putObj_heap_other (by omega)).trans hr
  have b0:=hr2.c0
  have b1:=hr2.c1
  have b2:=(put_boxed he (.deferred none) (show W.heap.size+3+1≠D by omega)).cell
  refine⟨.tuple #[.agg #[.slice none 0 0,.slice none 0 0],.int .i64 e],by simp[results,Tryz.results153,Tryz.f153,go_sem,b0,b1,b2],?_⟩
  exact .inr ⟨e,hs,none,0,0,none,0,0,rfl,Vl.none_ _,⟨by omega,by unfold maxLen;omega,by omega,by unfold maxLen;omega⟩,put_below HX2.out.bel _ (by omega)⟩
end Go.Proofs.YtbijncndjlmmdaaGreatDoor
namespace Go.Proofs.YtbijncndjlmmdaaGreatDoor
set_option linter.unusedVariables false
set_option linter.unusedSimpArgs false
open Go.RowKit
theorem DvB.fails {g:Nat} {op:ByteArray} {v u:Array Value} {w0 w5:World} (h:DvB g op v u w5) (hb:Below w0.heap.size w0 w5) (hg:w0.heap.size=g) (ec:Int):
 Bx (((w5.setCell ⟨g+3,0,none⟩ (.slice none 0 0)).setCell ⟨g+3,1,none⟩ (.slice none 0 0)).setCell ⟨g+4,0,none⟩ (.int .i64 ec)) (g+3) none 0 0 none 0 0
 ∧Boxed (((w5.setCell ⟨g+3,0,none⟩ (.slice none 0 0)).setCell ⟨g+3,1,none⟩ (.slice none 0 0)).setCell ⟨g+4,0,none⟩ (.int .i64 ec)) (g+4) 28 (.int .i64 ec)
 ∧AEnd [] [] ec w0 (.returned (.tuple #[.agg #[.slice none 0 0,.slice none 0 0],.int .i64 ec])) (((w5.setCell ⟨g+3,0,none⟩ (.slice none 0 0)).setCell ⟨g+3,1,none⟩ (.slice none 0 0)).setCell ⟨g+4,0,none⟩ (.int .i64 ec)):=by
 have h1:Boxed ((w5.setCell ⟨g+3,0,none⟩ (.slice none 0 0)).setCell ⟨g+3,1,none⟩ (.slice none 0 0)) (g+4) 28 (.int .i64 0):=((Below.heap_setCell _ _ _ _ (by simp)).trans (Below.heap_setCell _ _ _ _ (by simp))).trans h.e
 exact⟨(h.r.set none 0 0 none 0 0).setOther (by simp) _,h1.set _,none,0,0,none,0,0,rfl,Vl.none_ _,⟨by omega,by unfold maxLen;omega,by omega,by unfold maxLen;omega⟩,
  ((hb.setCell (p:=⟨g+3,0,none⟩) (by simp;omega) _).setCell (p:=⟨g+3,1,none⟩) (by simp;omega) _).setCell (p:=⟨g+4,0,none⟩) (by simp;omega) _⟩
theorem SDyad_sign {op:ByteArray} {a1 b1 a2 b2:Option Addr} {n1 c1 m1 d1 n2 c2 m2 d2:Nat} (W:World) (hW:SC W) (ho:op.size≤maxLen) (hk:¬kdL op.data.toList<11):
 Calls Tryz.prog 153 #[.string op,.agg #[.slice a1 n1 c1,.slice b1 m1 d1],.agg #[.slice a2 n2 c2,.slice b2 m2 d2]] W (AEnd [] [] 1 W):=by
 obtain⟨hB0,hb0⟩:=dvW_is W op #[.slice a1 n1 c1,.slice b1 m1 d1] #[.slice a2 n2 c2,.slice b2 m2 d2]
 have KO:=fun w (hw:SC w)=>Ops_is op ho w hw
 rw[decide_eq_false hk]at KO
 replace KO:=Lib.hid KO
 have HW:=Lib.hid hW
 have hbw0:=HW.out.below hb0
 clear hW ho hk
 go_enter Tryz.func153,Tryz.ntmps153
 go_wp2_with fail
 refine(KO.out _ hbw0).mono ?_
 rintro e w1 ⟨rfl,hq⟩
 have hB1:=hB0.below hq
 have hb1:=hb0.trans (hq.mono hb0.size)
 clear hB0 hb0 hq hbw0
 have r0:=hB1.r.c0
 have r1:=hB1.r.c1
 have f0:=hB1.r.f 0
 have f1:=hB1.r.f 1
 have r2:=hB1.e.cell
 have f2:=hB1.e.frozen
 have HB:=Lib.hid hB1
 have Hb:=Lib.hid hb1
 clear hB1 hb1
 go_wp2_with fail
 obtain⟨h1,h2,h3⟩:=HB.out.fails Hb.out rfl 1
 have b0:=h1.c0
 have b1:=h1.c1
 have b2:=h2.cell
 exact bodyPost_ret (v:=.tuple #[.agg #[.slice none 0 0,.slice none 0 0],.int .i64 1]) (by simp[results,Tryz.results153,go_sem,b0,b1,b2]) rfl h3
theorem SDyad_one {op:ByteArray} {a1 b1 a2 b2:Option Addr} {n1 c1 m1 d1 n2 c2 m2 d2:Nat} {l m:List Int} {es fs:List ByteArray} (W:World) (hW:SC W) (ho:op.size≤maxLen) (hk:kdL op.data.toList<11) (hV:Vl W a1 n1 b1 m1 l es) (hz1:∀j,j<m1→(es.getD j ByteArray.empty).size≤maxLen) (hm1:mayV l es=false):
 Calls Tryz.prog 153 #[.string op,.agg #[.slice a1 n1 c1,.slice b1 m1 d1],.agg #[.slice a2 n2 c2,.slice b2 m2 d2]] W (AEnd [] [] 1 W):=by
 obtain⟨hB0,hb0⟩:=dvW_is W op #[.slice a1 n1 c1,.slice b1 m1 d1] #[.slice a2 n2 c2,.slice b2 m2 d2]
 have KO:=fun w (hw:SC w)=>Ops_is op ho w hw
 rw[decide_eq_true hk]at KO
 replace KO:=Lib.hid KO
 have HW:=Lib.hid hW
 have hbw0:=HW.out.below hb0
 have KV:=fun w (hb:Below W.heap.size W w)=>VMay_is (c:=c1) (d:=d1) w (hV.below hb) hz1
 rw[hm1]at KV
 replace KV:=Lib.hid KV
 clear hW ho hk hV hz1 hm1
 go_enter Tryz.func153,Tryz.ntmps153
 go_wp2_with fail
 refine(KO.out _ hbw0).mono ?_
 rintro e w1 ⟨rfl,hq⟩
 have hB1:=hB0.below hq
 have hb1:=hb0.trans (hq.mono hb0.size)
 clear hB0 hb0 hq hbw0
 have v0:w1.cell? ⟨W.heap.size+1,0,none⟩=some (.slice a1 n1 c1):=by rw[cell_of_row _ _ 0 _ _ _ hB1.v];rfl
 have v1:w1.cell? ⟨W.heap.size+1,1,none⟩=some (.slice b1 m1 d1):=by rw[cell_of_row _ _ 1 _ _ _ hB1.v];rfl
 have z0:=hB1.r.c0
 have z1:=hB1.r.c1
 have f0:=hB1.r.f 0
 have f1:=hB1.r.f 1
 have z2:=hB1.e.cell
 have f2:=hB1.e.frozen
 go_wp2_with fail
 refine(KV.out _ hb1).mono ?_
 rintro e w2 ⟨rfl,hq⟩
 have hB2:=hB1.below hq
 have hb2:=hb1.trans (hq.mono hb1.size)
 clear hB1 hb1 hq v0 v1 z0 z1 f0 f1 z2 f2
 have r0:=hB2.r.c0
 have r1:=hB2.r.c1
 have f0:=hB2.r.f 0
 have f1:=hB2.r.f 1
 have r2:=hB2.e.cell
 have f2:=hB2.e.frozen
 have HB:=Lib.hid hB2
 have Hb:=Lib.hid hb2
 clear hB2 hb2
 go_wp2_with fail
 obtain⟨h1,h2,h3⟩:=HB.out.fails Hb.out rfl 1
 have b0:=h1.c0
 have b1:=h1.c1
 have b2:=h2.cell
 exact bodyPost_ret (v:=.tuple #[.agg #[.slice none 0 0,.slice none 0 0],.int .i64 1]) (by simp[results,Tryz.results153,go_sem,b0,b1,b2]) rfl h3
theorem SDyad_two {op:ByteArray} {a1 b1 a2 b2:Option Addr} {n1 c1 m1 d1 n2 c2 m2 d2:Nat} {l m:List Int} {es fs:List ByteArray} (W:World) (hW:SC W) (ho:op.size≤maxLen) (hk:kdL op.data.toList<11) (hV:Vl W a1 n1 b1 m1 l es) (hz1:∀j,j<m1→(es.getD j ByteArray.empty).size≤maxLen) (hm1:mayV l es=true) (hU:Vl W a2 n2 b2 m2 m fs) (hz2:∀j,j<m2→(fs.getD j ByteArray.empty).size≤maxLen) (hm2:mayV m fs=false):
 Calls Tryz.prog 153 #[.string op,.agg #[.slice a1 n1 c1,.slice b1 m1 d1],.agg #[.slice a2 n2 c2,.slice b2 m2 d2]] W (AEnd [] [] 1 W):=by
 obtain⟨hB0,hb0⟩:=dvW_is W op #[.slice a1 n1 c1,.slice b1 m1 d1] #[.slice a2 n2 c2,.slice b2 m2 d2]
 have KO:=fun w (hw:SC w)=>Ops_is op ho w hw
 rw[decide_eq_true hk]at KO
 replace KO:=Lib.hid KO
 have HW:=Lib.hid hW
 have hbw0:=HW.out.below hb0
 have KV:=fun w (hb:Below W.heap.size W w)=>VMay_is (c:=c1) (d:=d1) w (hV.below hb) hz1
 rw[hm1]at KV
 replace KV:=Lib.hid KV
 have KU:=fun w (hb:Below W.heap.size W w)=>VMay_is (c:=c2) (d:=d2) w (hU.below hb) hz2
 rw[hm2]at KU
 replace KU:=Lib.hid KU
 clear hW ho hk hV hz1 hm1 hU hz2 hm2
 go_enter Tryz.func153,Tryz.ntmps153
 go_wp2_with fail
 refine(KO.out _ hbw0).mono ?_
 rintro e w1 ⟨rfl,hq⟩
 have hB1:=hB0.below hq
 have hb1:=hb0.trans (hq.mono hb0.size)
 clear hB0 hb0 hq hbw0
 have v0:w1.cell? ⟨W.heap.size+1,0,none⟩=some (.slice a1 n1 c1):=by rw[cell_of_row _ _ 0 _ _ _ hB1.v];rfl
 have v1:w1.cell? ⟨W.heap.size+1,1,none⟩=some (.slice b1 m1 d1):=by rw[cell_of_row _ _ 1 _ _ _ hB1.v];rfl
 have z0:=hB1.r.c0
 have z1:=hB1.r.c1
 have f0:=hB1.r.f 0
 have f1:=hB1.r.f 1
 have z2:=hB1.e.cell
 have f2:=hB1.e.frozen
 go_wp2_with fail
 refine(KV.out _ hb1).mono ?_
 rintro e w2 ⟨rfl,hq⟩
 have hB2:=hB1.below hq
 have hb2:=hb1.trans (hq.mono hb1.size)
 clear hB1 hb1 hq v0 v1 z0 z1 f0 f1 z2 f2
 have v0:w2.cell? ⟨W.heap.size+2,0,none⟩=some (.slice a2 n2 c2):=by rw[cell_of_row _ _ 0 _ _ _ hB2.u];rfl
 have v1:w2.cell? ⟨W.heap.size+2,1,none⟩=some (.slice b2 m2 d2):=by rw[cell_of_row _ _ 1 _ _ _ hB2.u];rfl
 go_wp2_with fail
 refine(KU.out _ hb2).mono ?_
 rintro e w3 ⟨rfl,hq⟩
 have hB3:=hB2.below hq
 have hb3:=hb2.trans (hq.mono hb2.size)
 clear hB2 hb2 hq v0 v1
 have r0:=hB3.r.c0
 have r1:=hB3.r.c1
 have f0:=hB3.r.f 0
 have f1:=hB3.r.f 1
 have r2:=hB3.e.cell
 have f2:=hB3.e.frozen
 have HB:=Lib.hid hB3
 have Hb:=Lib.hid hb3
 clear hB3 hb3
 go_wp2_with fail
 obtain⟨h1,h2,h3⟩:=HB.out.fails Hb.out rfl 1
 have b0:=h1.c0
 have b1:=h1.c1
 have b2:=h2.cell
 exact bodyPost_ret (v:=.tuple #[.agg #[.slice none 0 0,.slice none 0 0],.int .i64 1]) (by simp[results,Tryz.results153,go_sem,b0,b1,b2]) rfl h3
theorem SDyad_apart {op:ByteArray} {a1 b1 a2 b2:Option Addr} {n1 c1 m1 d1 n2 c2 m2 d2:Nat} {l m:List Int} {es fs:List ByteArray} (W:World) (hW:SC W) (ho:op.size≤maxLen) (hk:kdL op.data.toList<11) (hV:Vl W a1 n1 b1 m1 l es) (hz1:∀j,j<m1→(es.getD j ByteArray.empty).size≤maxLen) (hm1:mayV l es=true) (hU:Vl W a2 n2 b2 m2 m fs) (hz2:∀j,j<m2→(fs.getD j ByteArray.empty).size≤maxLen) (hm2:mayV m fs=true) (hm:meE l m=4):
 Calls Tryz.prog 153 #[.string op,.agg #[.slice a1 n1 c1,.slice b1 m1 d1],.agg #[.slice a2 n2 c2,.slice b2 m2 d2]] W (AEnd [] [] 4 W):=by
 obtain⟨hB0,hb0⟩:=dvW_is W op #[.slice a1 n1 c1,.slice b1 m1 d1] #[.slice a2 n2 c2,.slice b2 m2 d2]
 have KO:=fun w (hw:SC w)=>Ops_is op ho w hw
 rw[decide_eq_true hk]at KO
 replace KO:=Lib.hid KO
 have HW:=Lib.hid hW
 have hbw0:=HW.out.below hb0
 have KV:=fun w (hb:Below W.heap.size W w)=>VMay_is (c:=c1) (d:=d1) w (hV.below hb) hz1
 rw[hm1]at KV
 replace KV:=Lib.hid KV
 have KU:=fun w (hb:Below W.heap.size W w)=>VMay_is (c:=c2) (d:=d2) w (hU.below hb) hz2
 rw[hm2]at KU
 replace KU:=Lib.hid KU
 have hn1:n1≤20:=by have:=(szE_may.1 (mayV_yes.1 hm1).e).len;rw[hV.s.1]at this;omega
 have hn2:n2≤20:=by have:=(szE_may.1 (mayV_yes.1 hm2).e).len;rw[hU.s.1]at this;omega
 have KM0:=fun w (hb:Below W.heap.size W w)=>Meet_c a1 a2 n1 c1 n2 c2 l m w (hV.s.below hb) (hU.s.below hb) hn1 hn2
 rw[mtE_is,mtV_is,hm]at KM0
 replace KM0:=Lib.hid KM0
 have e4:¬(4:Int)=0:=by decide
 clear hW ho hk hV hz1 hm1 hU hz2 hm2 hn1 hn2 hm
 go_enter Tryz.func153,Tryz.ntmps153
 go_wp2_with fail
 refine(KO.out _ hbw0).mono ?_
 rintro e w1 ⟨rfl,hq⟩
 have hB1:=hB0.below hq
 have hb1:=hb0.trans (hq.mono hb0.size)
 clear hB0 hb0 hq hbw0
 have v0:w1.cell? ⟨W.heap.size+1,0,none⟩=some (.slice a1 n1 c1):=by rw[cell_of_row _ _ 0 _ _ _ hB1.v];rfl
 have v1:w1.cell? ⟨W.heap.size+1,1,none⟩=some (.slice b1 m1 d1):=by rw[cell_of_row _ _ 1 _ _ _ hB1.v];rfl
 have z0:=hB1.r.c0
 have z1:=hB1.r.c1
 have f0:=hB1.r.f 0
 have f1:=hB1.r.f 1
 have z2:=hB1.e.cell
 have f2:=hB1.e.frozen
 go_wp2_with fail
 refine(KV.out _ hb1).mono ?_
 rintro e w2 ⟨rfl,hq⟩
 have hB2:=hB1.below hq
 have hb2:=hb1.trans (hq.mono hb1.size)
 clear hB1 hb1 hq v0 v1 z0 z1 f0 f1 z2 f2
 have v0:w2.cell? ⟨W.heap.size+2,0,none⟩=some (.slice a2 n2 c2):=by rw[cell_of_row _ _ 0 _ _ _ hB2.u];rfl
 have v1:w2.cell? ⟨W.heap.size+2,1,none⟩=some (.slice b2 m2 d2):=by rw[cell_of_row _ _ 1 _ _ _ hB2.u];rfl
 go_wp2_with fail
 refine(KU.out _ hb2).mono ?_
 rintro e w3 ⟨rfl,hq⟩
 have hB3:=hB2.below hq
 have hb3:=hb2.trans (hq.mono hb2.size)
 clear hB2 hb2 hq v0 v1
 have v0:w3.cell? ⟨W.heap.size+1,0,none⟩=some (.slice a1 n1 c1):=by rw[cell_of_row _ _ 0 _ _ _ hB3.v];rfl
 have v1:w3.cell? ⟨W.heap.size+2,0,none⟩=some (.slice a2 n2 c2):=by rw[cell_of_row _ _ 0 _ _ _ hB3.u];rfl
 have KM:=Lib.hid (KM0.out w3 hb3)
 go_wp2_with fail
 refine KM.out.mono ?_
 rintro e w4 ⟨a3,n3,c3,rfl,hsl,hn3,hnc3,hcm3,hq⟩
 have hB4:=hB3.below hq
 have hb4:=hb3.trans (hq.mono hb3.size)
 clear hB3 hb3 hq v0 v1 KM
 have r0:=hB4.r.c0
 have r1:=hB4.r.c1
 have f0:=hB4.r.f 0
 have f1:=hB4.r.f 1
 have r2:=hB4.e.cell
 have f2:=hB4.e.frozen
 have HB:=Lib.hid hB4
 have Hb:=Lib.hid hb4
 clear hB4 hb4
 go_wp2_with fail
 obtain⟨h1,h2,h3⟩:=HB.out.fails Hb.out rfl 4
 have b0:=h1.c0
 have b1:=h1.c1
 have b2:=h2.cell
 exact bodyPost_ret (v:=.tuple #[.agg #[.slice none 0 0,.slice none 0 0],.int .i64 4]) (by simp[results,Tryz.results153,go_sem,b0,b1,b2]) rfl h3
theorem SDyad_is {op:ByteArray} {a1 b1 a2 b2:Option Addr} {n1 c1 m1 d1 n2 c2 m2 d2:Nat} {l m:List Int} {es fs:List ByteArray} {o p:Option Ar} (W:World) (hW:SC W) (ho:op.size≤maxLen)
 (hV:Vl W a1 n1 b1 m1 l es) (hU:Vl W a2 n2 b2 m2 m fs) (hz1:∀j,j<m1→(es.getD j ByteArray.empty).size≤maxLen) (hz2:∀j,j<m2→(fs.getD j ByteArray.empty).size≤maxLen) (A1:AIs l es o) (A2:AIs m fs p):
 Calls Tryz.prog 153 #[.string op,.agg #[.slice a1 n1 c1,.slice b1 m1 d1],.agg #[.slice a2 n2 c2,.slice b2 m2 d2]] W
  (AEnd (TS (dyA (kdL op.data.toList) o p).1).1 (TS (dyA (kdL op.data.toList) o p).1).2 (dyA (kdL op.data.toList) o p).2 W):=by
 by_cases hk:kdL op.data.toList<11
 · cases o with
   |none=>
    rw[dyA_arg (by rfl)]
    exact SDyad_one W hW ho hk hV hz1 A1 (m:=m) (fs:=fs)
   |some q=>
   have hm1:=A1.may
   cases p with
   |none=>
    rw[dyA_arg (by rfl)]
    exact SDyad_two W hW ho hk hV hz1 hm1 hU hz2 A2
   |some r=>
   have hm2:=A2.may
   obtain⟨l',xs⟩:=q
   obtain⟨m',ys⟩:=r
   obtain⟨g1,_⟩:=A1.len
   obtain⟨g2,_⟩:=A2.len
   simp only at g1 g2
   subst g1 g2
   rcases meE_cases l' m' with hm|hm
   · rw[dyA_two hk hm]
     refine(SDyad_meet W hW ho hk hV hU hz1 hz2 A1 A2 hm).mono ?_
     rintro e w (⟨zs,h1,h2⟩|⟨ec,h1,h2⟩)
     · rw[h1];exact h2
     · rw[h1];exact h2
   · rw[dyA_shape hk (by rw[hm];decide)]
     exact SDyad_apart W hW ho hk hV hz1 hm1 hU hz2 hm2 hm
 · rw[dyA_none hk]
   exact SDyad_sign W hW ho hk
end Go.Proofs.YtbijncndjlmmdaaGreatDoor

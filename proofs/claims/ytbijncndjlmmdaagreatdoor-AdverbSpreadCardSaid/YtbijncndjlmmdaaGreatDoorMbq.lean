import Derived.Test.YtbijncndjlmmdaaGreatDoorMbp
import Derived.Test.YtbijncndjlmmdaaGreatDoorMaz
import Derived.Test.YtbijncndjlmmdaaGreatDoorMbe
import Derived.Test.YtbijncndjlmmdaaGreatDoorMbi
import Derived.Test.YtbijncndjlmmdaaGreatDoorMaq
set_option maxHeartbeats 6400000
set_option maxRecDepth 100000
namespace Go.Proofs.YtbijncndjlmmdaaGreatDoor
set_option linter.unusedVariables false
set_option linter.unusedSimpArgs false
open Go.RowKit
noncomputable def sOne (s:ByteArray) (x:Ar):Option Ar×Int:=oneP s.data.toList (some x)
noncomputable def sTwo (s:ByteArray) (x y:Ar):Option Ar×Int:=twoP s.data.toList (some x) (some y)
theorem m_one (s:ByteArray) (w:World):(method 390 31 (.string s) "One").run Tryz.prog w=.ok (26,.string s) w:=by kernel_rfl
theorem m_two (s:ByteArray) (w:World):(method 390 31 (.string s) "Two").run Tryz.prog w=.ok (25,.string s) w:=by kernel_rfl
theorem m_unit (s:ByteArray) (w:World):(method 390 31 (.string s) "Unit").run Tryz.prog w=.ok (334,.string s) w:=by kernel_rfl
theorem m_ahead (s:ByteArray) (w:World):(nilAhead 390 31 (.string s) "Two").run Tryz.prog w=.ok (some false) w:=by kernel_rfl
theorem avq_made {W:World} {x:Ar} (h:Rok (some x)):∃w a n c b m d,Below W.heap.size W w∧AvQ w a n c b m d x:=by
 have hm:=szE_may.1 h.1
 have hp:pr x.1≤4096:=hm.pr
 have hl:x.2.length≤4096:=by have:=h.2.1;omega
 have h3:x.1.length≤3:=hm.len
 have hb1:Below W.heap.size W (W.alloc (.cells (x.1.map (Value.int .i64)).toArray 3)):=(Below.refl _ _).alloc (Nat.le_refl _) _
 have hb2:Below (W.alloc (.cells (x.1.map (Value.int .i64)).toArray 3)).heap.size (W.alloc (.cells (x.1.map (Value.int .i64)).toArray 3)) ((W.alloc (.cells (x.1.map (Value.int .i64)).toArray 3)).alloc (.cells ((x.2.map S).map Value.string).toArray 9)):=(Below.refl _ _).alloc (Nat.le_refl _) _
 have hs1:Sl (W.alloc (.cells (x.1.map (Value.int .i64)).toArray 3)) (some ⟨W.heap.size,0,none⟩) x.1.length x.1:=Sl.row (heap_alloc_new W _)
 have hs2:St ((W.alloc (.cells (x.1.map (Value.int .i64)).toArray 3)).alloc (.cells ((x.2.map S).map Value.string).toArray 9)) (some ⟨(W.alloc (.cells (x.1.map (Value.int .i64)).toArray 3)).heap.size,0,none⟩) (x.2.map S).length (x.2.map S):=St.row (heap_alloc_new _ _)
 have hq:maxLen≥4096:=by unfold maxLen;omega
 exact⟨_,_,_,x.1.length,_,_,(x.2.map S).length,hb1.trans (hb2.mono hb1.size),⟨hs1.below hb2,hs2,by simp;omega⟩,⟨Nat.le_refl _,by omega,Nat.le_refl _,by simp;omega⟩,h.sz (o:=some x) rfl,h.ais⟩
theorem rok_of {fN:FuncId} {args:Array Value} {W:World} {r:Option Ar×Int} (h:Calls Tryz.prog fN args W (MEnd r W)):Rok r.1:=by
 obtain⟨e,w,fr,⟨a,n,c,b,m,d,_,hv,_⟩,_⟩:=h []
 exact hv.i.rok
theorem oneP_vb {W:World} (hW:PW W) {s:ByteArray} (hz:s.size≤maxLen):Vb1 (sOne s):=fun x hx=>by
 obtain⟨w,a,n,c,b,m,d,hb,hv⟩:=avq_made (W:=W) hx
 exact⟨oneP_told _ _,rok_of (POne_is hv (hW.below hb) hz)⟩
theorem twoP_vb {W:World} (hW:PW W) {s:ByteArray} (hz:s.size≤maxLen):Vb2 (sTwo s):=fun x y hx hy=>by
 obtain⟨w,a,n,c,b,m,d,hb,hv⟩:=avq_made (W:=W) hx
 obtain⟨w2,a2,n2,c2,b2,m2,d2,hb2,hv2⟩:=avq_made (W:=w) hy
 exact⟨twoP_told _ _ _,rok_of (PTwo_is (hv.below hb2) hv2 ((hW.below hb).below hb2) hz)⟩
theorem sign_verb {W:World} (hW:PW W) {s:ByteArray} (hz:s.size≤maxLen):
 VbIs W 31 (.string s) 26 25 334 (sOne s) (sTwo s) (unP s.data.toList) where
 m1:=m_one s
 m2:=m_two s
 m0:=m_unit s
 a2:=m_ahead s
 e1:=enters_of Tryz.func26 (by kernel_rfl) rfl
 e2:=enters_of Tryz.func25 (by kernel_rfl) rfl
 e0:=enters_of Tryz.func334 (by kernel_rfl) rfl
 one:=fun hb h=>POne_is h (hW.below hb) hz
 two:=fun hb h h2=>PTwo_is h h2 (hW.below hb) hz
 unit:=fun hb=>PUnit_is s (hW.below hb).sm.sc hz
 v1:=oneP_vb hW hz
 v2:=twoP_vb hW hz
 vu:=by
  cases hu:unP s.data.toList with
  |none=>trivial
  |some q=>
   obtain⟨x,rfl,hx,_⟩:=unP_yes q hu
   exact sc_rok (small_rok (by omega))
end Go.Proofs.YtbijncndjlmmdaaGreatDoor
namespace Go.Proofs.YtbijncndjlmmdaaGreatDoor
set_option linter.unusedVariables false
set_option linter.unusedSimpArgs false
open Go.RowKit
theorem lw_on {P:World→Prop} {w w':World} (h:Lv P w) (hb:Below w.heap.size w w')
 (hs:Stb P:=by repeat' (first|exact Stb.bel _|exact Stb.bx|exact Av.stb2|refine Stb.and ?_ ?_|exact Stb.triv)):Lv P w':=⟨hs _ _ h.out hb⟩
theorem Av.ntt {W:World} {a b:Option Addr} {n c m d:Nat} {o:Option Ar} (h:Av W a n c b m d (TS o).1 (TS o).2 o):n≤1000000:=by
 cases o with
 |none=>have:=h.v.s.1;simp[TS]at this;omega
 |some q=>have:=h.n3;omega
theorem lw_two {a1 b1 a2 b2:Option Addr} {n1 c1 m1 d1 n2 c2 m2 d2:Nat} {l1 l2:List Int} {es1 es2:List ByteArray} {o1 o2:Option Ar} (W:World) (h1:Av W a1 n1 c1 b1 m1 d1 l1 es1 o1) (h2:Av W a2 n2 c2 b2 m2 d2 l2 es2 o2):
 Lv (fun w=>Bx w (W.heap.size+1) a2 n2 c2 b2 m2 d2∧Av w a2 n2 c2 b2 m2 d2 l2 es2 o2∧Bx w W.heap.size a1 n1 c1 b1 m1 d1∧Av w a1 n1 c1 b1 m1 d1 l1 es1 o1∧Below W.heap.size W w)
  ((W.alloc (.cells #[.slice a1 n1 c1,.slice b1 m1 d1] 25)).alloc (.cells #[.slice a2 n2 c2,.slice b2 m2 d2] 25)):=by
 have k2:=lw_box (lw_one W h1) (h2.on ((Below.refl _ _).alloc (Nat.le_refl _) (.cells #[.slice a1 n1 c1,.slice b1 m1 d1] 25)))
 simp only[World.size_alloc]at k2
 exact k2
end Go.Proofs.YtbijncndjlmmdaaGreatDoor
namespace Go.Proofs.YtbijncndjlmmdaaGreatDoor
set_option linter.unusedVariables false
set_option linter.unusedSimpArgs false
theorem dyI_whole {k:Nat} (hk:k≠3) (hk4:k≠4) (h11:k<11) {x y e:Int} (h:dyI k x y=(none,e)):e=8:=by
 have ht:∀z:Int,tlI z=(none,e)→e=8:=by
  intro z hz
  unfold tlI at hz
  split at hz
  · cases hz
  · cases hz;rfl
 match k,h11 with
 | 0,_=>exact ht _ h
 | 1,_=>exact ht _ h
 | 2,_=>exact ht _ h
 | 3,_=>exact absurd rfl hk
 | 4,_=>exact absurd rfl hk4
 | 5,_=>cases h
 | 6,_=>cases h
 | 7,_=>cases h
 | 8,_=>cases h
 | 9,_=>cases h
 | 10,_=>cases h
theorem spL_bad {k:Nat} {ps:List (Int×Int)} {e:Int} (h:spL k ps=(none,e)):∃p∈ps,dyI k p.1 p.2=(none,e):=by
 induction ps with
 |nil=>cases h
 |cons q r ih=>
  obtain⟨o,c,hd⟩:∃o c,dyI k q.1 q.2=(o,c):=⟨_,_,rfl⟩
  unfold spL at h
  rw[hd]at h
  cases o with
  |none=>cases h;exact⟨q,List.mem_cons_self ..,hd⟩
  |some z=>
   obtain⟨o',c',hs⟩:∃o c,spL k r=(o,c):=⟨_,_,rfl⟩
   simp only[hs]at h
   cases o' with
   |none=>
    cases h
    obtain⟨p,h1,h2⟩:=ih hs
    exact⟨p,List.mem_cons_of_mem _ h1,h2⟩
   |some l'=>cases h
theorem dyA_err {k:Nat} (hk:k≠3) (hk4:k≠4) (h11:k<11) {l xs ys:List Int} {e:Int} (h:dyA k (some (l,xs)) (some (l,ys))=(none,e)):e=8:=by
 rw[dyA_two h11 (meV_self l).2]at h
 obtain⟨o,c,hs⟩:∃o c,spL k (prs (nx l) (nx l) xs ys (prD (meV l l)).toNat)=(o,c):=⟨_,_,rfl⟩
 rw[hs]at h
 cases o with
 |some z=>cases h
 |none=>
  cases h
  obtain⟨p,_,h2⟩:=spL_bad hs
  exact dyI_whole hk hk4 h11 h2
theorem both_law {k:Nat} (hk:k≠3) (hk4:k≠4) (h11:k<11) {l xs ys:List Int} (h1:Rok (some (l,xs))) (h2:Rok (some (l,ys))) (h0:xs≠[]):
 boA (fun x y=>dyA k (some x) (some y)) (some (l,xs)) (some (l,ys))=dyA k (some (l,xs)) (some (l,ys)):=by
 by_cases hl:l=[]
 · subst hl
   unfold boA
   dsimp only
   rw[if_pos ⟨rfl,rfl⟩]
 · have hf:Fits l xs:=⟨szE_may.1 h1.1,h1.2.1⟩
   have hf2:Fits l ys:=⟨szE_may.1 h2.1,h2.2.1⟩
   have hcut:=hf.cut hl
   have hcut2:=hf2.cut hl
   have hn:0<nI l:=by
    rcases Nat.eq_zero_or_pos (nI l)with h|h
    · rw[h,Nat.zero_mul]at hcut
      exact absurd (List.length_eq_zero_iff.1 hcut) h0
    · exact h
   have eb:boA (fun x y=>dyA k (some x) (some y)) (some (l,xs)) (some (l,ys))=joR (runL (fun i=>dyA k (some (itA l xs i)) (some (itA l ys i))) (List.range (nI l))):=by
    unfold boA
    dsimp only
    rw[if_neg (fun h=>hl h.1),if_neg hl,if_neg (fun h=>h.2 rfl)]
    unfold paA
    rw[if_neg (by show¬nI l=0;omega)]
   rw[eb]
   have hgd:((nI l:Nat):Int)=l.getD 0 0:=nI_head hl hf.1
   have hnn:∀x∈l,0≤x:=by
    intro x hx
    obtain⟨j,hj,rfl⟩:=List.getElem_of_mem hx
    have:=hf.1.nn j hj
    rwa [List.getD_eq_getElem?_getD,List.getElem?_eq_getElem hj]at this
   obtain⟨o,e,ho⟩:∃o e,dyA k (some (l,xs)) (some (l,ys))=(o,e):=⟨_,_,rfl⟩
   cases o with
   |some q=>
    obtain⟨s,zs⟩:=q
    have hs:s=l∧e=0:=by
     have ho':=ho
     rw[dyA_two h11 (meV_self l).2]at ho'
     obtain⟨p,c,hp⟩:∃o c,spL k (prs (nx l) (nx l) xs ys (prD (meV l l)).toNat)=(o,c):=⟨_,_,rfl⟩
     rw[hp]at ho'
     cases p with
     |none=>cases ho'
     |some z=>cases ho';exact⟨(meV_self l).1,rfl⟩
    obtain⟨rfl,rfl⟩:=hs
    have hr:Rok (dyA k (some (s,xs)) (some (s,ys))).1:=(dyA_is (k:=k) h1.ais h2.ais).rok
    rw[ho]at hr
    have hrun:=runL_of (f:=fun i=>dyA k (some (itA s xs i)) (some (itA s ys i))) (g:=fun i=>itA s zs i) (l:=List.range (nI s)) fun i hi=>
     dyA_items ho hl (by have:=List.mem_range.1 hi;omega) hnn
    rw[hrun,ho]
    exact jo_back hr hl hn
   |none=>
    have he:=dyA_err hk hk4 h11 ho
    subst he
    rw[ho]
    obtain⟨p,c,hp⟩:∃o c,runL (fun i=>dyA k (some (itA l xs i)) (some (itA l ys i))) (List.range (nI l))=(o,c):=⟨_,_,rfl⟩
    rw[hp]
    cases p with
    |none=>
     obtain⟨i,_,hi⟩:=runL_no hp
     rw[itA_cut hl,itA_cut hl]at hi
     have:=dyA_err hk hk4 h11 hi
     rw[this];rfl
    |some zs=>
     exfalso
     rw[dyA_two h11 (meV_self l).2,(meV_self l).1]at ho
     obtain⟨p2,c2,hp2⟩:∃o c,spL k (prs (nx l) (nx l) xs ys (prD l).toNat)=(o,c):=⟨_,_,rfl⟩
     rw[hp2]at ho
     cases p2 with
     |some z=>cases ho
     |none=>
      obtain⟨pq,hm,hbad⟩:=spL_bad hp2
      have hnx:nx l=false:=decide_eq_false hl
      rw[hnx]at hm
      unfold prs at hm
      obtain⟨j,hj,rfl⟩:=List.mem_map.1 hm
      have hj:=List.mem_range.1 hj
      have hsz:(prD l).toNat=nI l*kI l:=by
       rw[prD_is]
       have:=h1.2.1
       have hh:(xs.length:Int)=pr l:=h1.2.1
       omega
      rw[hsz]at hj
      have hk0:0<kI l:=by
       rcases Nat.eq_zero_or_pos (kI l)with h|h
       · rw[h]at hj;omega
       · exact h
      have hdiv:j/kI l<nI l:=Nat.div_lt_of_lt_mul (by rw[Nat.mul_comm];exact hj)
      obtain⟨g1,g2⟩:=runL_some hp
      obtain⟨c3,hc3⟩:=g2 (j/kI l) (by simpa using hdiv) (by rw[g1];simpa using hdiv)
      rw[List.getElem_range,itA_cut hl,itA_cut hl,dyA_two h11 (meV_self l.tail).2,(meV_self l.tail).1]at hc3
      obtain⟨p3,c4,hp3⟩:∃o c,spL k (prs (nx l.tail) (nx l.tail) ((xs.drop (j/kI l*kI l)).take (kI l)) ((ys.drop (j/kI l*kI l)).take (kI l)) (prD l.tail).toNat)=(o,c):=⟨_,_,rfl⟩
      rw[hp3]at hc3
      cases p3 with
      |none=>cases hc3
      |some z3=>
       have hall:=(spL_ok hp3).2.2
       have hkk:(prD l.tail).toNat=kI l:=by rw[prD_is];rfl
       have hmod:j%kI l<kI l:=Nat.mod_lt _ hk0
       have hjj:j/kI l*kI l+j%kI l=j:=by rw[Nat.mul_comm];exact Nat.div_add_mod j (kI l)
       have hget:∀us:List Int,((us.drop (j/kI l*kI l)).take (kI l)).getD (j%kI l) 0=us.getD j 0:=by
        intro us
        rw[List.getD_eq_getElem?_getD,List.getElem?_take,if_pos hmod,List.getElem?_drop,hjj,List.getD_eq_getElem?_getD]
       have hk1:∀us:List Int,us.length=nI l*kI l→((us.drop (j/kI l*kI l)).take (kI l)).getD (if nx l.tail then 0 else j%kI l) 0=us.getD j 0:=by
        intro us _
        by_cases ht:l.tail=[]
        · have h1:kI l=1:=by unfold kI;rw[ht];rfl
          have h2:j%kI l=0:=by omega
          have:=hget us
          rw[h2]at this
          split
          · exact this
          · rw[h2];exact this
        · have:nx l.tail=false:=decide_eq_false ht
          rw[this]
          exact hget us
       have hin:(((xs.drop (j/kI l*kI l)).take (kI l)).getD (if nx l.tail then 0 else j%kI l) 0,((ys.drop (j/kI l*kI l)).take (kI l)).getD (if nx l.tail then 0 else j%kI l) 0)∈prs (nx l.tail) (nx l.tail) ((xs.drop (j/kI l*kI l)).take (kI l)) ((ys.drop (j/kI l*kI l)).take (kI l)) (prD l.tail).toNat:=by
        unfold prs
        exact List.mem_map.2 ⟨j%kI l,List.mem_range.2 (by rw[hkk];exact hmod),rfl⟩
       have:=hall _ hin
       rw[hk1 xs hcut,hk1 ys hcut2]at this
       simp only[Bool.false_eq_true,if_false]at hbad
       rw[hbad]at this
       cases this
theorem each_law {k:Nat} (hk:k<3) {q:Ar} (h:Rok (some q)) (h0:q.2≠[]):eaA (fun x=>mnA k (some x)) (some q)=mnA k (some q):=by
 obtain⟨l,xs⟩:=q
 by_cases hl:l=[]
 · subst hl
   unfold eaA
   dsimp only
   rw[if_pos rfl]
 · have hf:Fits l xs:=⟨szE_may.1 h.1,h.2.1⟩
   have hcut:=hf.cut hl
   have hn:0<nI l:=by
    rcases Nat.eq_zero_or_pos (nI l)with h|h
    · rw[h,Nat.zero_mul]at hcut
      exact absurd (List.length_eq_zero_iff.1 hcut) h0
    · exact h
   have e1:mnA k (some (l,xs))=(some (l,xs.map (mnZ k)),0):=by simp only[mnA];rw[if_neg (by omega)]
   have hr:Rok (mnA k (some (l,xs))).1:=(mnA_is (k:=k) h.ais).rok
   rw[e1]at hr
   unfold eaA
   dsimp only
   rw[if_neg hl,if_neg (by omega),e1]
   have hrun:=runL_of (f:=fun x=>mnA k (some x)) (g:=fun x:Ar=>((x.1,x.2.map (mnZ k)):Ar)) (l:=iT (l,xs)) fun x _=>by
    obtain⟨a,b⟩:=x
    simp only[mnA]
    rw[if_neg (by omega)]
   rw[hrun]
   have:(iT (l,xs)).map (fun x:Ar=>((x.1,x.2.map (mnZ k)):Ar))=iT (l,xs.map (mnZ k)):=by
    unfold iT
    rw[List.map_map]
    apply List.map_congr_left
    intro i _
    show((itA l xs i).1,(itA l xs i).2.map (mnZ k))=itA l (xs.map (mnZ k)) i
    rw[itA_cut hl,itA_cut hl,List.map_take,List.map_drop]
   show joA _=_
   rw[this]
   exact jo_back hr hl hn
end Go.Proofs.YtbijncndjlmmdaaGreatDoor
namespace Go.Proofs.YtbijncndjlmmdaaGreatDoor
set_option linter.unusedVariables false
set_option linter.unusedSimpArgs false
def sc (x:Int):Ar:=([],[x])
theorem iT_vec (xs:List Int):iT ([(xs.length:Int)],xs)=xs.map sc:=by
 apply List.ext_getElem
 · rw[iT_len,List.length_map];show(xs.length:Int).toNat=_;omega
 · intro i h1 h2
   have hi:i<xs.length:=by simpa using h2
   rw[iT_get (by show i<(xs.length:Int).toNat;omega),itA_cut (by simp),List.getElem_map]
   show(([]:List Int),(xs.drop (i*1)).take 1)=([],[xs[i]])
   rw[Nat.mul_one,List.drop_eq_getElem_cons hi]
   rfl
theorem nI_vec (xs:List Int):nI [(xs.length:Int)]=xs.length:=by show(xs.length:Int).toNat=_;omega
theorem itA_vec {x:Int} {r:List Int}:itA [((x::r).length:Int)] (x::r) 0=sc x:=by
 rw[itA_cut (by simp)]
 rfl
theorem flat_sc:∀zs:List Int,(zs.map sc).flatMap (·.2)=zs
 |[]=>rfl
 |z::r=>by rw[List.map_cons,List.flatMap_cons,flat_sc r];rfl
theorem szE_vec {n:Nat} (h:n≤4096):szE [(n:Int)]=0:=szE_may.2 ⟨by simp,fun j hj=>by
 have:j=0:=by simpa using hj
 subst this
 show(0:Int)≤(n:Int)
 omega,fun j hj=>by
 have:j=0:=by simpa using hj
 subst this
 show(n:Int)≤1099511627776
 omega,by show(n:Int)*1≤4096;omega⟩
theorem jo_vec {zs:List Int} (h0:zs≠[]) (h:zs.length≤4096):joA (zs.map sc)=(some ([(zs.length:Int)],zs),0):=by
 have hn:zs.map sc≠[]:=by simpa using h0
 have hs:∀x∈zs.map sc,x.1=[]:=by
  intro x hx
  obtain⟨z,_,rfl⟩:=List.mem_map.1 hx
  rfl
 have e:=jo_yes hn hs (by rw[List.length_map];exact szE_vec h)
 rw[flat_sc,List.length_map]at e
 exact e
theorem dy_sc {k:Nat} (hk:k<11) (x y:Int):dyA k (some (sc x)) (some (sc y))=match dyI k x y with
 |(some z,_)=>(some (sc z),0)
 |(none,e)=>(none,e):=by
 unfold sc
 rw[dyA_two hk (by decide)]
 have:prs (nx []) (nx []) [x] [y] (prD (meV [] [])).toNat=[(x,y)]:=rfl
 rw[this]
 unfold spL
 obtain⟨o,c,ho⟩:∃o c,dyI k x y=(o,c):=⟨_,_,rfl⟩
 rw[show dyI k (x,y).1 (x,y).2=(o,c)from ho]
 cases o<;>rfl
theorem dy_sc_ok {k:Nat} (hk:k<11) {x y z:Int} {c:Int} (h:dyI k x y=(some z,c)):dyA k (some (sc x)) (some (sc y))=(some (sc z),0):=by rw[dy_sc hk,h]
def difL:Int→List Int→List Int
 |_,[]=>[]
 |a,x::r=>(x-a)::difL x r
def sumL:Int→List Int→List Int
 |_,[]=>[]
 |a,x::r=>(a+x)::sumL (a+x) r
theorem difL_len:∀(a:Int) (r:List Int),(difL a r).length=r.length
 |_,[]=>rfl
 |_,x::r=>by show(difL x r).length+1=_;rw[difL_len x r];rfl
theorem sumL_len:∀(a:Int) (r:List Int),(sumL a r).length=r.length
 |_,[]=>rfl
 |a,x::r=>by show(sumL (a+x) r).length+1=_;rw[sumL_len (a+x) r];rfl
def absS:List Int→Nat
 |[]=>0
 |x::r=>x.natAbs+absS r
theorem prL_dif:∀{r:List Int} {a:Int},2*(a.natAbs+absS r)<lim→runL (fun p:Ar×Ar=>dyA 1 (some p.1) (some p.2)) ((r.map sc).zip (sc a::r.map sc))=(some ((difL a r).map sc),0)
 |[],_,_=>rfl
 |x::r,a,h=>by
  have h':2*(a.natAbs+(x.natAbs+absS r))<lim:=h
  have e1:dyA 1 (some (sc x)) (some (sc a))=(some (sc (x-a)),0):=dy_sc_ok (by decide) (show tlI (x-a)=(some (x-a),0)from tlI_near (by omega))
  rw[List.map_cons,List.zip_cons_cons]
  rw[runL_cons (f:=fun p:Ar×Ar=>dyA 1 (some p.1) (some p.2)) (x:=(sc x,sc a)) e1]
  have ih:=prL_dif (r:=r) (a:=x) (by omega)
  rw[ih]
  rfl
theorem stL_sum:∀{r:List Int} {a:Int},a.natAbs+absS r<lim→stL (fun x y=>dyA 0 (some x) (some y)) (sc a) (r.map sc)=(some ((a::sumL a r).map sc),0)
 |[],_,_=>rfl
 |x::r,a,h=>by
  have h':a.natAbs+(x.natAbs+absS r)<lim:=h
  have e1:dyA 0 (some (sc a)) (some (sc x))=(some (sc (a+x)),0):=dy_sc_ok (by decide) (show tlI (a+x)=(some (a+x),0)from tlI_near (by omega))
  rw[List.map_cons,stL_cons (g:=fun x y=>dyA 0 (some x) (some y)) e1,stL_sum (r:=r) (a:=a+x) (by omega)]
  rfl
end Go.Proofs.YtbijncndjlmmdaaGreatDoor
namespace Go.Proofs.YtbijncndjlmmdaaGreatDoor
set_option linter.unusedVariables false
set_option linter.unusedSimpArgs false
open Go.RowKit
theorem sg_sub:sTwo ⟨#[45]⟩=fun x y=>dyA 1 (some x) (some y):=by
 funext x y
 show twoP [45] (some x) (some y)=_
 unfold twoP
 rw[if_pos (by decide),show kdL [45]=1 by decide]
theorem sg_add:sTwo ⟨#[43]⟩=fun x y=>dyA 0 (some x) (some y):=by
 funext x y
 show twoP [43] (some x) (some y)=_
 unfold twoP
 rw[if_pos (by decide),show kdL [43]=0 by decide]
theorem pr_vec {y:Int} {s:List Int} (hs:s.length≤99) (h:2*(y.natAbs+absS s)<lim):prA (sTwo ⟨#[45]⟩) (some ([((y::s).length:Int)],y::s))=(some ([((y::s).length:Int)],y::difL y s),0):=by
 rw[sg_sub]
 unfold prA
 dsimp only
 rw[if_neg (by rintro(h|h);· simp at h
               · rw[nI_vec]at h;simp at h),iT_vec,itA_vec,List.map_cons,List.tail_cons]
 unfold prL
 rw[prL_dif h]
 have:=jo_vec (zs:=y::difL y s) (by simp) (by rw[List.length_cons,difL_len];omega)
 rw[List.length_cons,difL_len]at this
 exact this
theorem sc_vec {y:Int} {s:List Int} (hs:s.length≤99) (h:y.natAbs+absS s<lim):scA (sTwo ⟨#[43]⟩) (some ([((y::s).length:Int)],y::s))=(some ([((y::s).length:Int)],y::sumL y s),0):=by
 rw[sg_add]
 unfold scA
 dsimp only
 rw[if_neg (by rintro(h|h);· simp at h
               · rw[nI_vec]at h;simp at h),iT_vec,itA_vec,List.map_cons,List.tail_cons,stL_sum h]
 have:=jo_vec (zs:=y::sumL y s) (by simp) (by rw[List.length_cons,sumL_len];omega)
 rw[List.length_cons,sumL_len]at this
 exact this
theorem sm_lim {n:Nat} (h:n<1000):n<lim:=Nat.lt_of_lt_of_le h (Nat.le_trans (by decide) lim_big)
theorem ex_pr:prA (sTwo ⟨#[45]⟩) (some ([3],[1,3,6]))=(some ([3],[1,2,3]),0):=pr_vec (y:=1) (s:=[3,6]) (by decide) (sm_lim (by decide))
theorem ex_sc:scA (sTwo ⟨#[43]⟩) (some ([3],[1,3,6]))=(some ([3],[1,4,10]),0):=sc_vec (y:=1) (s:=[3,6]) (by decide) (sm_lim (by decide))
theorem ex_rd (u:Option Ar):rdA (sTwo ⟨#[43]⟩) u (some ([3],[1,3,6]))=(some ([],[10]),0):=by
 rw[sg_add]
 unfold rdA
 dsimp only
 rw[if_neg (by decide),if_neg (by decide),show iT ([3],[1,3,6])=[sc 1,sc 3,sc 6]from iT_vec [1,3,6],show itA [3] [1,3,6] 0=sc 1 from itA_vec,List.tail_cons]
 have a1:dyA 0 (some (sc 1)) (some (sc 3))=(some (sc 4),0):=dy_sc_ok (c:=0) (by decide) (show tlI (1+3)=_ from tlI_near (sm_lim (by decide)))
 have a2:dyA 0 (some (sc 4)) (some (sc 6))=(some (sc 10),0):=dy_sc_ok (c:=0) (by decide) (show tlI (4+6)=_ from tlI_near (sm_lim (by decide)))
 rw[rdL_cons (g:=fun x y=>dyA 0 (some x) (some y)) a1,rdL_cons (g:=fun x y=>dyA 0 (some x) (some y)) a2]
 rfl
theorem tri_i64 {x y z:Int} (hx:I64 x) (hy:I64 y) (hz:I64 z):∀j,j<3→I64 (([x,y,z]:List Int).getD j 0):=by
 intro j hj
 have h:j=0∨j=1∨j=2:=by omega
 rcases h with rfl|rfl|rfl
 · exact hx
 · exact hy
 · exact hz
theorem sl_tri (w:World) (x y z:Int):Sl (w.alloc (.cells #[.int .i64 x,.int .i64 y,.int .i64 z] 3)) (some ⟨w.heap.size,0,none⟩) 3 [x,y,z]:=Sl.row (l:=[x,y,z]) (heap_alloc_new _ _)
theorem Ints_tri (a:Option Addr) (x y z:Int) (W:World) (h:Sl W a 3 [x,y,z]) (hi:∀j,j<3→I64 (([x,y,z]:List Int).getD j 0)) (ht:WT W):Calls Tryz.prog 27 #[.slice a 3 3] W (PtEnd [3] ([x,y,z].map S) W):=Ints_pt a 3 3 [x,y,z] W h hi (by omega) ht
theorem Scalar_10 (W:World):Calls Tryz.prog 29 #[.string ⟨#[49,48]⟩] W (PtEnd [] ([10].map S) W):=by
 rw[show([10]:List Int).map S=[⟨#[49,48]⟩]by simp[show S 10=⟨#[49,48]⟩by decide+kernel]]
 exact Scalar_pt _ W
theorem ashown_is (W:World) (hW:PW W):Calls Tryz.prog 10 #[] W (TrueEnd W):=by
 have hA:Below W.heap.size W (W.alloc (.cells #[.int .i64 1,.int .i64 3,.int .i64 6] 3)):=(Below.refl _ _).alloc (Nat.le_refl _) _
 have h:Lv (fun w=>Below W.heap.size W w) (W.alloc (.cells #[.int .i64 1,.int .i64 3,.int .i64 6] 3)):=⟨hA⟩
 have KW:=Lib.hid (fun w (hb:Below W.heap.size W w)=>hW.below hb)
 have V1:=sign_verb hW (s:=⟨#[45]⟩) (by decide)
 have V2:=sign_verb hW (s:=⟨#[43]⟩) (by decide)
 have i1:=tri_i64 (x:=1) (y:=3) (z:=6) (by decide) (by decide) (by decide)
 have i2:=tri_i64 (x:=1) (y:=2) (z:=3) (by decide) (by decide) (by decide)
 have i3:=tri_i64 (x:=1) (y:=4) (z:=10) (by decide) (by decide) (by decide)
 have K1:=Lib.hid (Ints_tri _ 1 3 6 _ (sl_tri W 1 3 6) i1 (KW.out _ hA).wt)
 have R1:Rok (some ([3],[1,3,6])):=vec_rok (t:=3) (by omega) rfl (fun x hx=>small_rok (by simp at hx;omega))
 have R2:Rok (some ([3],[1,2,3])):=vec_rok (t:=3) (by omega) rfl (fun x hx=>small_rok (by simp at hx;omega))
 have R3:Rok (some ([3],[1,4,10])):=vec_rok (t:=3) (by omega) rfl (fun x hx=>small_rok (by simp at hx;omega))
 have R4:Rok (some ([],[10])):=⟨(by decide:szE []=0),(rfl:((1:Nat):Int)=pr []),fun x hx=>small_rok (by simp at hx;omega)⟩
 have KSC:=Lib.hid Scalar_10
 clear hW hA
 go_enter Tryz.func10,Tryz.ntmps10
 go_wp2_with fail
 with_reducible refine(lw_P h (⟨K1.out,R1⟩)).mono ?_
 clear h
 rintro e w ⟨ae,ne,ce,be,me,de,rfl,h⟩
 have HI0:=prior_is V1 h.out.2 h.out.1 (fun q e=>by obtain rfl:=Option.some.inj e;decide)
 rw[ex_pr]at HI0
 go_wp2_with fail
 with_reducible refine(lw_M h (HI0)).mono ?_
 clear h
 rintro e w ⟨au,nu,cu,bu,mu,du,rfl,h⟩
 obtain⟨wu,hwu⟩:∃z,z=w:=⟨_,rfl⟩
 subst hwu
 generalize hwz0:wu.alloc (.cells #[.slice au nu cu,.slice bu mu du] 25)=wz0 at*
 have hA:Below wz0.heap.size wz0 (wz0.alloc (.cells #[.int .i64 1,.int .i64 3,.int .i64 6] 3)):=(Below.refl _ _).alloc (Nat.le_refl _) _
 replace h:=lw_on h hA
 have K2:=Lib.hid (Ints_tri _ 1 3 6 _ (sl_tri wz0 1 3 6) i1 (KW.out _ h.out.2.2.2).wt)
 clear hA K1
 go_wp2_with fail
 with_reducible refine(lw_P h (⟨K2.out,R1⟩)).mono ?_
 clear h
 rintro e w ⟨af,nf,cf,bf,mf,df,rfl,h⟩
 have HI1:=reduce_is V2 h.out.2.2.2.2 h.out.1
 rw[ex_rd]at HI1
 go_wp2_with fail
 with_reducible refine(lw_M h (HI1)).mono ?_
 clear h
 rintro e w ⟨av,nv,cv,bv,mv,dv,rfl,h⟩
 obtain⟨wv,hwv⟩:∃z,z=w:=⟨_,rfl⟩
 subst hwv
 generalize hwz1:wv.alloc (.cells #[.slice av nv cv,.slice bv mv dv] 25)=wz1 at*
 have hA:Below wz1.heap.size wz1 (wz1.alloc (.cells #[.int .i64 1,.int .i64 3,.int .i64 6] 3)):=(Below.refl _ _).alloc (Nat.le_refl _) _
 replace h:=lw_on h hA
 have K3:=Lib.hid (Ints_tri _ 1 3 6 _ (sl_tri wz1 1 3 6) i1 (KW.out _ h.out.2.2.2.2.2.2).wt)
 clear hA K2
 go_wp2_with fail
 with_reducible refine(lw_P h (⟨K3.out,R1⟩)).mono ?_
 clear h
 rintro e w ⟨aj,nj,cj,bj,mj,dj,rfl,h⟩
 have HI2:=scan_is V2 h.out.2.2.2.2.2.2.2 h.out.1 (fun q e=>by obtain rfl:=Option.some.inj e;decide)
 rw[ex_sc]at HI2
 go_wp2_with fail
 with_reducible refine(lw_M h (HI2)).mono ?_
 clear h
 rintro e w ⟨ax,nx,cx,bx,mx,dx,rfl,h⟩
 obtain⟨wx,hwx⟩:∃z,z=w:=⟨_,rfl⟩
 subst hwx
 generalize hwy:wx.alloc (.cells #[.slice ax nx cx,.slice bx mx dx] 25)=wy at*
 have xu:=h.out.2.2.2.2.2.2.1.c0
 have yu:=h.out.2.2.2.2.2.2.1.c1
 have lu:=h.out.2.2.2.2.2.2.1.lt
 have xv:=h.out.2.2.2.1.c0
 have yv:=h.out.2.2.2.1.c1
 have lv:=h.out.2.2.2.1.lt
 have xx:=h.out.1.c0
 have yx:=h.out.1.c1
 have lx:=h.out.1.lt
 have Q1:Hid (∀z g,Below wy.heap.size wy z→z.heap[g]?=some (.cells #[.int .i64 1,.int .i64 2,.int .i64 3] 3 (0,0))→Calls Tryz.prog 27 #[.slice (some ⟨g,0,none⟩) 3 3] z fun e w'=>∃a n c b m d,e=.returned (.agg #[.slice a n c,.slice b m d])∧Av w' a n c b m d [3] ([1,2,3].map S) (some ([3],[1,2,3]))∧Below wy.heap.size wy w'∧Below z.heap.size z w'):=Lib.hid (fun z g hz hg=>(Ints_tri (some ⟨g,0,none⟩) _ _ _ z (Sl.row (l:=[1,2,3]) hg) i2 (KW.out z (h.out.2.2.2.2.2.2.2.2.2.trans (hz.mono h.out.2.2.2.2.2.2.2.2.2.size))).wt).mono fun e w' (h:PtEnd _ _ _ _ _)=>by
  obtain⟨a,n,c,b,m,d,h1,h2,h3,h4⟩:=h
  exact⟨a,n,c,b,m,d,h1,Av.pt (q:=([3],[1,2,3])) h2 h3 R2,hz.trans (h4.mono hz.size),h4⟩)
 have Q2:Hid (∀z a0 n0 c0 b0 m0 d0,Below wy.heap.size wy z→Av z a0 n0 c0 b0 m0 d0 [3] ([1,2,3].map S) (some ([3],[1,2,3]))→Calls Tryz.prog 20 #[.agg #[.slice au nu cu,.slice bu mu du],.agg #[.slice a0 n0 c0,.slice b0 m0 d0]] z fun e w'=>e=.returned (.bool true)∧Below wy.heap.size wy w'):=Lib.hid (fun z a0 n0 c0 b0 m0 d0 hz hv=>(VSame_av (h.out.2.2.2.2.2.2.2.1.v.below hz) hv.v (by have:=h.out.2.2.2.2.2.2.2.1.n3;omega) (by have:=hv.n3;omega) rfl rfl).mono fun e w' k=>⟨k.1,hz.trans (k.2.mono hz.size)⟩)
 have Q3:Hid (∀z,Below wy.heap.size wy z→Calls Tryz.prog 29 #[.string ⟨#[49,48]⟩] z fun e w'=>∃a n c b m d,e=.returned (.agg #[.slice a n c,.slice b m d])∧Av w' a n c b m d [] ([10].map S) (some ([],[10]))∧Below wy.heap.size wy w'∧Below z.heap.size z w'):=Lib.hid (fun z hz=>(KSC.out z).mono fun e w' (h:PtEnd _ _ _ _ _)=>by
  obtain⟨a,n,c,b,m,d,h1,h2,h3,h4⟩:=h
  exact⟨a,n,c,b,m,d,h1,Av.pt (q:=([],[10])) h2 h3 R4,hz.trans (h4.mono hz.size),h4⟩)
 have Q4:Hid (∀z a0 n0 c0 b0 m0 d0,Below wy.heap.size wy z→Av z a0 n0 c0 b0 m0 d0 [] ([10].map S) (some ([],[10]))→Calls Tryz.prog 20 #[.agg #[.slice av nv cv,.slice bv mv dv],.agg #[.slice a0 n0 c0,.slice b0 m0 d0]] z fun e w'=>e=.returned (.bool true)∧Below wy.heap.size wy w'):=Lib.hid (fun z a0 n0 c0 b0 m0 d0 hz hv=>(VSame_av (h.out.2.2.2.2.1.v.below hz) hv.v (by have:=h.out.2.2.2.2.1.n3;omega) (by have:=hv.n3;omega) rfl rfl).mono fun e w' k=>⟨k.1,hz.trans (k.2.mono hz.size)⟩)
 have Q5:Hid (∀z g,Below wy.heap.size wy z→z.heap[g]?=some (.cells #[.int .i64 1,.int .i64 4,.int .i64 10] 3 (0,0))→Calls Tryz.prog 27 #[.slice (some ⟨g,0,none⟩) 3 3] z fun e w'=>∃a n c b m d,e=.returned (.agg #[.slice a n c,.slice b m d])∧Av w' a n c b m d [3] ([1,4,10].map S) (some ([3],[1,4,10]))∧Below wy.heap.size wy w'∧Below z.heap.size z w'):=Lib.hid (fun z g hz hg=>(Ints_tri (some ⟨g,0,none⟩) _ _ _ z (Sl.row (l:=[1,4,10]) hg) i3 (KW.out z (h.out.2.2.2.2.2.2.2.2.2.trans (hz.mono h.out.2.2.2.2.2.2.2.2.2.size))).wt).mono fun e w' (h:PtEnd _ _ _ _ _)=>by
  obtain⟨a,n,c,b,m,d,h1,h2,h3,h4⟩:=h
  exact⟨a,n,c,b,m,d,h1,Av.pt (q:=([3],[1,4,10])) h2 h3 R3,hz.trans (h4.mono hz.size),h4⟩)
 have Q6:Hid (∀z a0 n0 c0 b0 m0 d0,Below wy.heap.size wy z→Av z a0 n0 c0 b0 m0 d0 [3] ([1,4,10].map S) (some ([3],[1,4,10]))→Calls Tryz.prog 20 #[.agg #[.slice ax nx cx,.slice bx mx dx],.agg #[.slice a0 n0 c0,.slice b0 m0 d0]] z fun e w'=>e=.returned (.bool true)∧Below wy.heap.size wy w'):=Lib.hid (fun z a0 n0 c0 b0 m0 d0 hz hv=>(VSame_av (h.out.2.1.v.below hz) hv.v (by have:=h.out.2.1.n3;omega) (by have:=hv.n3;omega) rfl rfl).mono fun e w' k=>⟨k.1,hz.trans (k.2.mono hz.size)⟩)
 have HB:=Lib.hid h.out.2.2.2.2.2.2.2.2.2
 have hq:Below wy.heap.size wy wy:=Below.refl _ _
 have hqz:=hq.size
 go_upto_region 4 with fail
 clear h hwz0 hwz1 hwy K3 HI0 HI1 HI2 V1 V2
 go_region_held3 (fun w'=>w'.cell? ⟨wu.heap.size,0,none⟩=some (.slice au nu cu)∧w'.cell? ⟨wu.heap.size,1,none⟩=some (.slice bu mu du)∧w'.cell? ⟨wv.heap.size,0,none⟩=some (.slice av nv cv)∧w'.cell? ⟨wv.heap.size,1,none⟩=some (.slice bv mv dv)∧w'.cell? ⟨wx.heap.size,0,none⟩=some (.slice ax nx cx)∧w'.cell? ⟨wx.heap.size,1,none⟩=some (.slice bx mx dx))
  (first|exact⟨(Below.cell (p:=⟨wu.heap.size,0,none⟩) (by repeat' (first|exact hq|refine Below.drew ?_|refine below_drewN ?_ _|refine Below.alloc ?_ ?_ _|refine Below.setCell ?_ ?_ _|exact hqz|exact Nat.le_refl _|omega|(simp;done)|(simp;omega))) lu).trans xu,(Below.cell (p:=⟨wu.heap.size,1,none⟩) (by repeat' (first|exact hq|refine Below.drew ?_|refine below_drewN ?_ _|refine Below.alloc ?_ ?_ _|refine Below.setCell ?_ ?_ _|exact hqz|exact Nat.le_refl _|omega|(simp;done)|(simp;omega))) lu).trans yu,(Below.cell (p:=⟨wv.heap.size,0,none⟩) (by repeat' (first|exact hq|refine Below.drew ?_|refine below_drewN ?_ _|refine Below.alloc ?_ ?_ _|refine Below.setCell ?_ ?_ _|exact hqz|exact Nat.le_refl _|omega|(simp;done)|(simp;omega))) lv).trans xv,(Below.cell (p:=⟨wv.heap.size,1,none⟩) (by repeat' (first|exact hq|refine Below.drew ?_|refine below_drewN ?_ _|refine Below.alloc ?_ ?_ _|refine Below.setCell ?_ ?_ _|exact hqz|exact Nat.le_refl _|omega|(simp;done)|(simp;omega))) lv).trans yv,(Below.cell (p:=⟨wx.heap.size,0,none⟩) (by repeat' (first|exact hq|refine Below.drew ?_|refine below_drewN ?_ _|refine Below.alloc ?_ ?_ _|refine Below.setCell ?_ ?_ _|exact hqz|exact Nat.le_refl _|omega|(simp;done)|(simp;omega))) lx).trans xx,(Below.cell (p:=⟨wx.heap.size,1,none⟩) (by repeat' (first|exact hq|refine Below.drew ?_|refine below_drewN ?_ _|refine Below.alloc ?_ ?_ _|refine Below.setCell ?_ ?_ _|exact hqz|exact Nat.le_refl _|omega|(simp;done)|(simp;omega))) lx).trans yx⟩|fail)
  (first
    |(go_at_call 27;(with_reducible refine(Q1.out _ _ (by repeat' (first|exact hq|refine Below.drew ?_|refine below_drewN ?_ _|refine Below.alloc ?_ ?_ _|refine Below.setCell ?_ ?_ _|exact hqz|exact Nat.le_refl _|omega|(simp;done)|(simp;omega))) (by first|exact heap_alloc_new _ _|exact new_drew _ _|exact new_past _ _ _|exact new_pastd _ _ _|exact new_pastd2 _ _ _|exact new_pastd3 _ _ _|exact new_on _ _ _|exact new_ond _ _ _|exact new_ond2 _ _ _|exact new_ond3 _ _ _)).mono ?_);rintro e wa ⟨ai,ni,ci,bi,mi,di,rfl,hav,hq,hr⟩;have hqz:=hq.size)
    |(go_at_call 20;(with_reducible refine(Q2.out _ _ _ _ _ _ _ (by repeat' (first|exact hq|refine Below.drew ?_|refine below_drewN ?_ _|refine Below.alloc ?_ ?_ _|refine Below.setCell ?_ ?_ _|exact hqz|exact Nat.le_refl _|omega|(simp;done)|(simp;omega))) (by first|exact hav|exact hav.on (by repeat' (first|exact Below.refl _ _|refine Below.drew ?_|refine below_drewN ?_ _|refine Below.alloc ?_ ?_ _|exact Nat.le_refl _|(simp;done)|(simp;omega))))).mono ?_);rintro e wb ⟨rfl,hq⟩;have hqz:=hq.size)
    |(go_at_call 29;(with_reducible refine(Q3.out _ (by repeat' (first|exact hq|refine Below.drew ?_|refine below_drewN ?_ _|refine Below.alloc ?_ ?_ _|refine Below.setCell ?_ ?_ _|exact hqz|exact Nat.le_refl _|omega|(simp;done)|(simp;omega)))).mono ?_);rintro e wa ⟨ai,ni,ci,bi,mi,di,rfl,hbv,hq,hr⟩;have hqz:=hq.size)
    |(go_at_call 20;(with_reducible refine(Q4.out _ _ _ _ _ _ _ (by repeat' (first|exact hq|refine Below.drew ?_|refine below_drewN ?_ _|refine Below.alloc ?_ ?_ _|refine Below.setCell ?_ ?_ _|exact hqz|exact Nat.le_refl _|omega|(simp;done)|(simp;omega))) (by first|exact hbv|exact hbv.on (by repeat' (first|exact Below.refl _ _|refine Below.drew ?_|refine below_drewN ?_ _|refine Below.alloc ?_ ?_ _|exact Nat.le_refl _|(simp;done)|(simp;omega))))).mono ?_);rintro e wb ⟨rfl,hq⟩;have hqz:=hq.size)
    |(go_at_call 27;(with_reducible refine(Q5.out _ _ (by repeat' (first|exact hq|refine Below.drew ?_|refine below_drewN ?_ _|refine Below.alloc ?_ ?_ _|refine Below.setCell ?_ ?_ _|exact hqz|exact Nat.le_refl _|omega|(simp;done)|(simp;omega))) (by first|exact heap_alloc_new _ _|exact new_drew _ _|exact new_past _ _ _|exact new_pastd _ _ _|exact new_pastd2 _ _ _|exact new_pastd3 _ _ _|exact new_on _ _ _|exact new_ond _ _ _|exact new_ond2 _ _ _|exact new_ond3 _ _ _)).mono ?_);rintro e wa ⟨ai,ni,ci,bi,mi,di,rfl,hcv,hq,hr⟩;have hqz:=hq.size)
    |(go_at_call 20;(with_reducible refine(Q6.out _ _ _ _ _ _ _ (by repeat' (first|exact hq|refine Below.drew ?_|refine below_drewN ?_ _|refine Below.alloc ?_ ?_ _|refine Below.setCell ?_ ?_ _|exact hqz|exact Nat.le_refl _|omega|(simp;done)|(simp;omega))) (by first|exact hcv|exact hcv.on (by repeat' (first|exact Below.refl _ _|refine Below.drew ?_|refine below_drewN ?_ _|refine Below.alloc ?_ ?_ _|exact Nat.le_refl _|(simp;done)|(simp;omega))))).mono ?_);rintro e wb ⟨rfl,hq⟩;have hqz:=hq.size)
    |fail)
 all_goals
  go_wp2_with fail
  go_ret
  exact⟨rfl,HB.out.trans (Below.mono (by repeat' (first|exact hq|refine Below.drew ?_|refine below_drewN ?_ _|refine Below.alloc ?_ ?_ _|refine Below.setCell ?_ ?_ _|exact hqz|exact Nat.le_refl _|omega|(simp;done)|(simp;omega))) HB.out.size)⟩
end Go.Proofs.YtbijncndjlmmdaaGreatDoor
namespace Go.Proofs.YtbijncndjlmmdaaGreatDoor
set_option linter.unusedVariables false
set_option linter.unusedSimpArgs false
open Go.RowKit
def smB (l:List Int) (es:List ByteArray):Bool:=fewB l es&&decide (itV l≤100)
section
variable {W:World} {a b:Option Addr} {n c m d:Nat} {l:List Int} {es:List ByteArray} {o:Option Ar}
theorem many_is (h1:Av W a n c b m d l es o) (hn:n≤20):Calls Tryz.prog 32 #[.agg #[.slice a n c,.slice b m d]] W (fun e w'=>e=.returned (.int .i64 (itV l))∧Below W.heap.size W w'):=by
 have h:=lw_one W h1
 have hb0:=h.out.2.2
 have K:=Lib.hid (rItems_is a n c l _ (h1.v.s.below hb0) hn h1.c.1 h1.c.2)
 have x0:=h.out.1.c0
 clear h1
 generalize itV l=v at*
 go_enter Tryz.func32,Tryz.ntmps32
 go_wp2_with fail
 refine K.out.mono ?_
 rintro e w ⟨a',n',c',rfl,_,_,hb⟩
 go_wp2_with fail
 go_ret
 exact⟨rfl,hb0.trans (hb.mono hb0.size)⟩
theorem Small_is (h1:Av W a n c b m d l es o):Calls Tryz.prog 11 #[.agg #[.slice a n c,.slice b m d]] W (BoolEnd (smB l es) W):=by
 have h:=lw_one W h1
 have KF:=fun w (hb:Below W.heap.size W w)=>Few_is (c:=c) (d:=d) w (h1.v.below hb) h1.z
 rcases Bool.eq_false_or_eq_true (fewB l es)with hf|hf
 · have hn:n≤20:=by have:=(fewB_yes hf).1;have:=h1.v.s.1;omega
   have KM:=Lib.hid (fun w (hb:Below W.heap.size W w)=>many_is (h1.below hb) hn)
   rw[hf]at KF
   replace KF:=Lib.hid KF
   rw[show smB l es=decide (itV l≤100)by unfold smB;rw[hf];rfl]
   clear h1 hf hn
   generalize itV l=v at*
   have x0:=h.out.1.c0
   have x1:=h.out.1.c1
   go_enter Tryz.func11,Tryz.ntmps11
   go_wp2_with fail
   refine(lw h (KF.out _ h.out.2.2)).mono ?_
   clear h x0 x1
   rintro e w ⟨rfl,h⟩
   have x0:=h.out.1.c0
   have x1:=h.out.1.c1
   go_wp2_with fail
   refine(KM.out _ h.out.2.2).mono ?_
   rintro e w2 ⟨rfl,hb⟩
   go_wp2_with fail
   go_ret
   exact⟨rfl,h.out.2.2.trans (hb.mono h.out.2.2.size)⟩
 · rw[hf]at KF
   replace KF:=Lib.hid KF
   rw[show smB l es=false by unfold smB;rw[hf];rfl]
   clear h1 hf
   have x0:=h.out.1.c0
   have x1:=h.out.1.c1
   go_enter Tryz.func11,Tryz.ntmps11
   go_wp2_with fail
   refine(lw h (KF.out _ h.out.2.2)).mono ?_
   clear h x0 x1
   rintro e w ⟨rfl,h⟩
   have x0:=h.out.1.c0
   have x1:=h.out.1.c1
   go_wp2_with fail
   go_ret
   exact⟨rfl,h.out.2.2⟩
theorem smB_few {q:Ar} (h:smB q.1 es=true):nI q.1≤4096:=by
 unfold smB at h
 rw[Bool.and_eq_true,decide_eq_true_eq]at h
 unfold itV at h
 unfold nI
 by_cases h0:q.1.length=0
 · rw[List.length_eq_zero_iff.1 h0]
   decide
 · rw[if_neg h0]at h
   have:=h.2
   omega
end
end Go.Proofs.YtbijncndjlmmdaaGreatDoor

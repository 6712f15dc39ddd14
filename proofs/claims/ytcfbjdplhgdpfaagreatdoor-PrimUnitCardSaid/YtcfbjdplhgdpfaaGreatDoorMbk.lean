import Derived.Test.YtcfbjdplhgdpfaaGreatDoorMbj
import Derived.BigQuiet
import Derived.BigRegion
import Derived.Test.YtcfbjdplhgdpfaaGreatDoorMbh
import Derived.Maps.OwnSet
import Derived.Maps.OwnOps
set_option maxHeartbeats 6400000
set_option maxRecDepth 100000
namespace Go.Proofs.YtcfbjdplhgdpfaaGreatDoor
set_option linter.unusedVariables false
set_option linter.unusedSimpArgs false
open Go.RowKit
structure OC (G B1:Nat) (b:Option Addr) (m d:Nat) (sg:Int) (K:Nat→Prop) (W0:World) (pf:Option Addr→Prop) (M:Nat) (xs:List Int):Prop where
 hK:∀k,K k→k<W0.heap.size
 hKG:¬K G
 hB:B1=G+1
 hpf:∀R,pf (some ⟨R,0,none⟩)→B1≤R→¬K R
 hE:∀w,Kep K W0 w→St w b m (xs.map S)
 hX:∀x∈xs,x.natAbs<lim
 hM:M=m
 hm:m≤5000
 hsg:sg=1∨sg= -1
theorem OC.hG {G B1:Nat} {b:Option Addr} {m d:Nat} {sg:Int} {K:Nat→Prop} {W0:World} {pf:Option Addr→Prop} {M:Nat} {xs:List Int} (C:OC G B1 b m d sg K W0 pf M xs):G<B1:=by have:=C.hB;omega
def OS (G B1:Nat) (b:Option Addr) (m d:Nat) (sg:Int) (K:Nat→Prop) (W0:World) (pf:Option Addr→Prop) (M:Nat) (a:Nat→Nat) (n:Nat) (w:World):Prop:=∃pa pc,Od G B1 b m d sg K W0 pf M a n w pa pc
def LsEnd (P:Prop) (X:World→Prop) (e:Ending) (w':World):Prop:=∃t:Bool,e=.returned (.bool t)∧(t=true↔P)∧X w'
theorem sg_cmp {sg x y:Int} (h:sg=1∨sg= -1):(sg*cmpI x y<0↔sg*x<sg*y)∧(sg*cmpI x y=0↔sg*x=sg*y)∧ -1≤sg*cmpI x y∧sg*cmpI x y≤1:=by
 rcases h with rfl|rfl<;>unfold cmpI<;>split<;>(try split)<;>refine⟨?_,?_,?_,?_⟩<;>omega
section
variable {G B1:Nat} {b:Option Addr} {m d:Nat} {sg:Int} {K:Nat→Prop} {W0:World} {pf:Option Addr→Prop} {M:Nat} {xs:List Int} {a:Nat→Nat} {n:Nat} {w w':World}
theorem olen_q {pa:Option Addr} {pc:Nat} (h:Od G B1 b m d sg K W0 pf M a n w pa pc):Calls Tryz.prog 141 #[.pointer (some ⟨G,0,none⟩)] w fun e w'=>e=.returned (.int .i64 (n:Int))∧w=w':=by
 have y1:=h.c1
 clear h
 go_enter Tryz.func141,Tryz.ntmps141
 go_wp2_with fail
 go_ret
 exact⟨rfl,rfl⟩
theorem olen_is (h:OS G B1 b m d sg K W0 pf M a n w):Calls Tryz.prog 141 #[.pointer (some ⟨G,0,none⟩)] w fun e w'=>e=.returned (.int .i64 (n:Int))∧OS G B1 b m d sg K W0 pf M a n w':=by
 obtain⟨pa,pc,h⟩:=h
 exact(olen_q h).mono fun e w' k=>⟨k.1,pa,pc,by rw[←k.2];exact h⟩
theorem opop_is (C:OC G B1 b m d sg K W0 pf M xs) (h:OS G B1 b m d sg K W0 pf M a (n+1) w):Calls Tryz.prog 293 #[.pointer (some ⟨G,0,none⟩)] w fun e w'=>e=.returned (.iface 3 (.int .i64 (a n:Int)))∧OS G B1 b m d sg K W0 pf M a n w':=by
 obtain⟨pa,pc,h⟩:=h
 obtain⟨R,rfl,hBR,hRl,hc⟩:=h.at (by omega)
 have y1:=h.c1
 have hcn:=(hc n (by omega)).1
 have hw:IntKind.i64.wrap (n:Int)=(n:Int):=IntWalk.i64_in _ (by have:=h.nle;have:=C.hm;have:=C.hM;omega)
 have hcap:n≤pc:=by have:=h.caps;omega
 have hfz:=frozen_of_row w G 1 _ _ h.box
 have H:=Lib.hid (h.popped C.hKG C.hG)
 obtain⟨x,hx⟩:∃x:Int,x=(a n:Int):=⟨_,rfl⟩
 rw[←hx]at hcn ⊢
 clear h hc C hx
 go_enter Tryz.func293,Tryz.ntmps293
 go_wp2_with fail
 go_ret
 exact⟨rfl,_,_,H.out⟩
theorem oswap_is (C:OC G B1 b m d sg K W0 pf M xs) (h:OS G B1 b m d sg K W0 pf M a n w) {i j:Nat} (hi:i<n) (hj:j<n):Calls Tryz.prog 295 #[.pointer (some ⟨G,0,none⟩),.int .i64 (i:Int),.int .i64 (j:Int)] w fun e w'=>e=.returned (.tuple #[])∧OS G B1 b m d sg K W0 pf M (swp a i j) n w':=by
 obtain⟨pa,pc,h⟩:=h
 obtain⟨R,rfl,hBR,hRl,hc⟩:=h.at (by omega)
 have y1:=h.c1
 have ci:=(hc i hi).1
 have cj:=(hc j hj).1
 have fi:=(hc i hi).2
 have fj:=(hc j hj).2
 have H:=Lib.hid (h.swap C.hG C.hpf rfl hBR hi hj)
 obtain⟨x,hx⟩:∃x:Int,x=(a i:Int):=⟨_,rfl⟩
 obtain⟨y,hy⟩:∃y:Int,y=(a j:Int):=⟨_,rfl⟩
 rw[←hx]at ci H
 rw[←hy]at cj H
 have hi2:(i:Int)<(n:Int):=by omega
 have hj2:(j:Int)<(n:Int):=by omega
 have cj3:(w.setCell ⟨R,i,none⟩ (.int .i64 y)).cell? ⟨R,j,none⟩=some (.int .i64 y):=by
  by_cases e:i=j
  · subst e;exact World.cell?_setCell_same' _ _ _ (by rw[ci];rfl)
  · rw[World.cell?_setCell_other _ _ _ _ (by simp[e]),cj]
 clear h hc C hx hy
 go_enter Tryz.func295,Tryz.ntmps295
 go_wp2_with fail
 go_region
 all_goals
  go_wp2_with fail
  go_end0
  exact⟨rfl,_,_,by first|exact H.out|exact H.out.drew⟩
theorem opush_is (C:OC G B1 b m d sg K W0 pf M xs) (hall:∀q,pf q) (h:OS G B1 b m d sg K W0 pf M a n w) (hn:n<M):Calls Tryz.prog 294 #[.pointer (some ⟨G,0,none⟩),.iface 3 (.int .i64 (n:Int))] w fun e w'=>e=.returned (.tuple #[])∧∃c,OS G B1 b m d sg K W0 pf M c (n+1) w'∧c n=n∧∀k,k<n→c k=a k:=by
 obtain⟨pa,pc,h⟩:=h
 have y1:=h.c1
 have HX:=Lib.hid h
 have HC:=Lib.hid C
 have hn5:n≤100000:=by have:=C.hm;have:=C.hM;omega
 have hB:B1≤w.heap.size:=by have:=h.gl;have:=C.hB;omega
 have y1a:(w.alloc (.cells #[.int .i64 (n:Int)] 3)).cell? ⟨G,1,none⟩=some (.slice pa n pc):=(((Below.refl w.heap.size w).alloc (Nat.le_refl _) _).cell (p:=⟨G,1,none⟩) h.gl).trans y1
 have hta:∀w,(Instr.typeAssert (.iface 3 (.int .i64 (n:Int))) 20 3 false).run Tryz.prog w=.ok (.int .i64 (n:Int)) w:=fun w=>by kernel_rfl
 clear h C
 go_enter Tryz.func294,Tryz.ntmps294
 go_wp2_with fail
 go_region_law (refine stepI w B1 (.tmp 8) (.tmp 11) pa n pc _ (n:Int) rfl rfl rfl rfl rfl rfl rfl rfl HX.out.row (by omega) (by omega) ?_;intro av' cv' w9 hown9 hg9 _;have hO9:=HX.out.box3 HC.out.hG HC.out.hpf hg9;have g9:=frozen_of_row w9 G 1 _ _ hO9;have z9:w9.cell? ⟨G,1,none⟩=some (.slice pa n pc):=by rw[cell_of_row _ _ _ _ _ _ hO9];rfl)
 all_goals
  have hP:=Lib.hid (HX.out.pushed HC.out.hK HC.out.hKG HC.out.hG HC.out.hpf hall hn hown9 hg9)
  clear hown9 hg9 hO9 g9 z9
  go_wp2_with fail
  go_end0
  exact⟨rfl,_,⟨_,_,hP.out⟩,if_pos rfl,fun k hk=>if_neg (by omega)⟩
theorem oless_is (C:OC G B1 b m d sg K W0 pf M xs) (h:OS G B1 b m d sg K W0 pf M a n w) {i j:Nat} (hi:i<n) (hj:j<n):Calls Tryz.prog 292 #[.pointer (some ⟨G,0,none⟩),.int .i64 (i:Int),.int .i64 (j:Int)] w (LsEnd (Lf (fun k=>sg*xs.getD k 0) (a i) (a j)) (OS G B1 b m d sg K W0 pf M a n)):=by
 obtain⟨pa,pc,h⟩:=h
 obtain⟨R,rfl,hBR,hRl,hc⟩:=h.at (by omega)
 have y0:=h.c0
 have y1:=h.c1
 have y2:=h.c2
 have hE:=C.hE w h.kep
 have hai:a i<m:=by have:=h.lt i hi;have:=C.hM;omega
 have haj:a j<m:=by have:=h.lt j hj;have:=C.hM;omega
 have ci:=(hc i hi).1
 have cj:=(hc j hj).1
 obtain⟨bb,off,rfl,hcE⟩:=hE.2 (by omega)
 have hxl:xs.length=m:=by have:=hE.1;rwa [List.length_map]at this
 have ei:=hcE (a i) hai
 have ej:=hcE (a j) haj
 rw[getD_S (by omega)]at ei ej
 have HL:Hid (Lf (fun k=>sg*xs.getD k 0) (a i) (a j)↔sg*cmpI (xs.getD (a i) 0) (xs.getD (a j) 0)<0∨(sg*cmpI (xs.getD (a i) 0) (xs.getD (a j) 0)=0∧a i<a j)):=Lib.hid (by
  obtain⟨s1,s2,_⟩:=sg_cmp (x:=xs.getD (a i) 0) (y:=xs.getD (a j) 0) C.hsg
  unfold Lf
  rw[s1,s2])
 obtain⟨-, -,b1,b2⟩:=sg_cmp (x:=xs.getD (a i) 0) (y:=xs.getD (a j) 0) C.hsg
 have KQ:Hid (∀z,Below w.heap.size w z→Calls Tryz.prog 208 #[.string (S (xs.getD (a i) 0)),.string (S (xs.getD (a j) 0))] z fun e w'=>e=.returned (.int .i64 (cmpI (xs.getD (a i) 0) (xs.getD (a j) 0)))∧Below w.heap.size w w'):=Lib.hid fun z hz=>(Cmp_yes (xs.getD (a i) 0) (xs.getD (a j) 0) z (getD_bd C.hX _) (getD_bd C.hX _)).mono fun e w' k=>⟨k.1,hz.trans (k.2.mono hz.size)⟩
 obtain⟨u,hu⟩:∃u:Int,u=(a i:Int):=⟨_,rfl⟩
 obtain⟨v,hv⟩:∃v:Int,v=(a j:Int):=⟨_,rfl⟩
 obtain⟨q,hq⟩:∃q:Int,q=sg*cmpI (xs.getD (a i) 0) (xs.getD (a j) 0):=⟨_,rfl⟩
 rw[←hq]at HL b1 b2
 obtain⟨s,hs⟩:∃s,s=S (xs.getD (a i) 0):=⟨_,rfl⟩
 obtain⟨t,ht⟩:∃t,t=S (xs.getD (a j) 0):=⟨_,rfl⟩
 rw[←hs]at ei KQ
 rw[←ht]at ej KQ
 obtain⟨z,hz⟩:∃z:Int,z=cmpI (xs.getD (a i) 0) (xs.getD (a j) 0):=⟨_,rfl⟩
 rw[←hz]at KQ hq
 have hw:IntKind.i64.wrap (sg*z)=q:=by rw[←hq];exact IntWalk.i64_in _ (by omega)
 have ha1:0≤u:=by omega
 have ha2:u<(m:Int):=by omega
 have ha3:0≤v:=by omega
 have ha4:v<(m:Int):=by omega
 have e1:u.toNat=a i:=by omega
 have e2:v.toNat=a j:=by omega
 rw[←hu]at ci
 rw[←hv]at cj
 have ei':w.cell? ⟨bb,off+u.toNat,none⟩=some (.string s):=by rw[e1];exact ei
 have ej':w.cell? ⟨bb,off+v.toNat,none⟩=some (.string t):=by rw[e2];exact ej
 have HUV:Hid (a i<a j↔u<v):=Lib.hid (by omega)
 have hi2:(i:Int)<(n:Int):=by omega
 have hj2:(j:Int)<(n:Int):=by omega
 have HO:=Lib.hid (fun z (hb:Below w.heap.size w z)=>(⟨_,_,h.on C.hK hb⟩:OS G B1 (some ⟨bb,off,none⟩) m d sg K W0 pf M a n z))
 have l0:=h.gl
 have lE:=World.block_lt_of_cell? w _ ei
 clear h hc C hE hcE ei ej hai haj hxl hu hv hq hs ht hz e1 e2
 go_enter Tryz.func292,Tryz.ntmps292
 have hq3:q= -1∨q=0∨q=1:=by omega
 have HQ3:=Lib.hid hq3
 clear hq3
 go_wp2_with fail
 go_quiet (fail)
 go_wp2_with fail
 have hq:=below_drewN (Below.refl w.heap.size w) nq
 generalize w.drewN nq=wq at hq ⊢
 have hqz:=hq.size
 clear ci cj
 go_region_held3 (fun w'=>w'.cell? ⟨G,0,none⟩=some (.slice (some ⟨bb,off,none⟩) m d)∧w'.cell? ⟨G,2,none⟩=some (.int .i64 sg)∧w'.cell? ⟨bb,off+u.toNat,none⟩=some (.string s)∧w'.cell? ⟨bb,off+v.toNat,none⟩=some (.string t))
  (first|exact⟨(Below.cell (p:=⟨G,0,none⟩) (by repeat' (first|exact hq|refine Below.drew ?_|refine below_drewN ?_ _|refine Below.alloc ?_ ?_ _|refine Below.setCell ?_ ?_ _|exact hqz|exact Nat.le_refl _|omega|(simp;done)|(simp;omega))) l0).trans y0,(Below.cell (p:=⟨G,2,none⟩) (by repeat' (first|exact hq|refine Below.drew ?_|refine below_drewN ?_ _|refine Below.alloc ?_ ?_ _|refine Below.setCell ?_ ?_ _|exact hqz|exact Nat.le_refl _|omega|(simp;done)|(simp;omega))) l0).trans y2,(Below.cell (p:=⟨bb,off+u.toNat,none⟩) (by repeat' (first|exact hq|refine Below.drew ?_|refine below_drewN ?_ _|refine Below.alloc ?_ ?_ _|refine Below.setCell ?_ ?_ _|exact hqz|exact Nat.le_refl _|omega|(simp;done)|(simp;omega))) lE).trans ei',(Below.cell (p:=⟨bb,off+v.toNat,none⟩) (by repeat' (first|exact hq|refine Below.drew ?_|refine below_drewN ?_ _|refine Below.alloc ?_ ?_ _|refine Below.setCell ?_ ?_ _|exact hqz|exact Nat.le_refl _|omega|(simp;done)|(simp;omega))) lE).trans ej'⟩|fail)
  (first
    |(go_at_call 208;(with_reducible refine(KQ.out _ (by repeat' (first|exact hq|refine Below.drew ?_|refine below_drewN ?_ _|refine Below.alloc ?_ ?_ _|refine Below.setCell ?_ ?_ _|exact hqz|exact Nat.le_refl _|omega|(simp;done)|(simp;omega)))).mono ?_);rintro e wa ⟨rfl,hq⟩;have hqz:=hq.size)
    |fail)
 all_goals
  have hb9:=Lib.hid (HO.out _ (by repeat' (first|exact hq|refine Below.drew ?_|refine below_drewN ?_ _|refine Below.alloc ?_ ?_ _|refine Below.setCell ?_ ?_ _|exact hqz|exact Nat.le_refl _|omega|(simp;done)|(simp;omega))))
  clear hq hqz y0 y1 y2 ei' ej' KQ HO hw b1 b2
  rcases HQ3.out with h|h|h
  · subst h
    go_wp2_with fail
    go_ret
    exact⟨true,rfl,⟨fun _=>HL.out.2 (.inl (by omega)),fun _=>rfl⟩,hb9.out⟩
  · subst h
    by_cases huv:u<v
    · go_wp2_with fail
      go_ret
      exact⟨true,rfl,⟨fun _=>HL.out.2 (.inr ⟨(by first|rfl|trivial),HUV.out.2 huv⟩),fun _=>rfl⟩,hb9.out⟩
    · go_wp2_with fail
      go_ret
      exact⟨false,rfl,⟨fun k=>(by cases k),fun k=>by
       rcases HL.out.1 k with k|k
       · omega
       · have:=HUV.out.1 k.2;omega⟩,hb9.out⟩
  · subst h
    go_wp2_with fail
    go_ret
    exact⟨false,rfl,⟨fun k=>(by cases k),fun k=>by
     rcases HL.out.1 k with k|k<;>omega⟩,hb9.out⟩
end
end Go.Proofs.YtcfbjdplhgdpfaaGreatDoor
namespace Go.Proofs.YtcfbjdplhgdpfaaGreatDoor
set_option linter.unusedVariables false
set_option linter.unusedSimpArgs false
open Go.RowKit
theorem fp_app {α:Type} [DecidableEq α] {l:List α} {x:α} (h:x∈l) (m:List α):fpS (l++m) x=fpS l x:=by
 have hl:=fp_mem.2 h
 refine fp_one (by rw[List.length_append];omega) ?_ fun j hj=> ?_
 · rw[List.getElem?_append_left hl];exact fp_at hl
 · rw[List.getElem?_append_left (by omega)];exact fp_min hj
theorem fp_new {α:Type} [DecidableEq α] {l:List α} {x:α} (h:x∉l) (m:List α):fpS (l++x::m) x=l.length:=by
 refine fp_one (by simp) (by simp) fun j hj e=> ?_
 rw[List.getElem?_append_left hj]at e
 exact h (List.mem_of_getElem? e)
theorem fp_not {α:Type} [DecidableEq α] {l:List α} {x:α} (h:x∉l):fpS l x=l.length:=by
 have:=fp_le l x
 rcases Nat.lt_or_ge (fpS l x) l.length with h1|h1
 · exact absurd (fp_mem.1 h1) h
 · omega
theorem fkey_ne {s t:ByteArray} (h:s≠t):(Lit.string s.data.toList)≠(Lit.string t.data.toList):=fun e=>h (by
 injection e with e
 exact ByteArray.ext (Array.toList_inj.1 e))
theorem fkeyed:Go.Maps.Keyed Tryz.prog 9:=Go.Maps.string_keyed Tryz.underlying9
theorem fzero (w:World):(zeroValue 3).run Tryz.prog w=.ok (.int .i64 0) w:=by kernel_rfl
def FstD (D:DataW Unit) (l:List ByteArray):Prop:=
 ∀s:ByteArray,(Maps.has D (.string s.data.toList)=true↔s∈l)∧(s∈l→D.atKey (.string s.data.toList) (.lit (.int .i64 0))=.lit (.int .i64 ((fpS l s:Nat):Int)))
theorem FstD.nil:FstD (.map []) []:=fun s=>⟨by simp[Maps.has],fun h=>by cases h⟩
theorem FstD.old {D:DataW Unit} {l:List ByteArray} {s:ByteArray} (h:FstD D l) (hs:s∈l):FstD D (l++[s]):=fun t=>by
 obtain⟨h1,h2⟩:=h t
 have e:t∈l++[s]↔t∈l:=by
  rw[List.mem_append,List.mem_singleton]
  exact⟨fun k=>k.elim id fun e=>by rw[e];exact hs,.inl⟩
 refine⟨by rw[h1,e],fun k=> ?_⟩
 rw[fp_app (e.1 k)];exact h2 (e.1 k)
theorem FstD.new {D:DataW Unit} {l:List ByteArray} {s:ByteArray} (h:FstD D l) (hD:Maps.IsMap D) (hs:s∉l):FstD (D.put (.string s.data.toList) (.lit (.int .i64 (l.length:Int)))) (l++[s]):=fun t=>by
 by_cases e:t=s
 · subst e
   exact⟨by rw[Maps.has_put_same (k:=.string t.data.toList) hD trivial];simp,fun _=>by rw[Maps.atKey_put_same (k:=.string t.data.toList) hD trivial,fp_new hs []]⟩
 · have k:=fkey_ne e
   obtain⟨h1,h2⟩:=h t
   refine⟨by rw[Maps.has_put_other k,h1];simp[e],fun m=> ?_⟩
   have m':t∈l:=by simpa[e]using m
   rw[Maps.atKey_put_other k,fp_app m'];exact h2 m'
theorem FstD.yes {D:DataW Unit} {l:List ByteArray} {s:ByteArray} (h:FstD D l) (hs:s∈l):Maps.has D (.string s.data.toList)=true:=(h s).1.2 hs
theorem FstD.no {D:DataW Unit} {l:List ByteArray} {s:ByteArray} (h:FstD D l) (hs:s∉l):Maps.has D (.string s.data.toList)=false:=Bool.eq_false_iff.2 fun e=>hs ((h s).1.1 e)
theorem FstD.at {D:DataW Unit} {l:List ByteArray} (h:FstD D l) {s:ByteArray} (hs:s∈l) {c:Int} (hc:D.atKey (.string s.data.toList) (.lit (.int .i64 0))=.lit (.int .i64 c)):c=(fpS l s:Nat):=by
 rw[(h s).2 hs]at hc
 injection hc with hc
 injection hc with _ hc
 exact hc.symm
def Fst (w:World) (B n:Nat) (l:List ByteArray):Prop:=∃D:DataW Unit,w.ownsMap Tryz.prog 9 (plainElem Tryz.prog 3) B n D∧FstD D l
theorem Fst.below {w w':World} {B n:Nat} {l:List ByteArray} (h:Fst w B n l) (hb:Below w.heap.size w w'):Fst w' B n l:=by
 obtain⟨D,⟨es,clock,h1,h2⟩,h3⟩:=h
 exact⟨D,⟨es,clock,(hb.block B (Array.getElem?_eq_some_iff.1 h1).1).trans h1,h2⟩,h3⟩
theorem Stb.fst {B n:Nat} {l:List ByteArray}:Stb fun w=>Fst w B n l:=fun _ _ h hb=>h.below hb
def FsEnd (l:List ByteArray) (W:World) (e:Ending) (W':World):Prop:=∃B,e=.returned (.map (some B))∧Fst W' B l.length l∧Below W.heap.size W W'
theorem live_fs {P:World→Prop} {w:World} {f:FuncId} {args:Array Value} {l:List ByteArray} (h:Lv P w) (hc:Calls Tryz.prog f args w (FsEnd l w))
 (hs:Stb P:=by repeat' (first|exact Stb.bel _|exact Stb.bx|exact Stb.vl|refine Stb.and ?_ ?_|exact Stb.triv)):
 Calls Tryz.prog f args w fun e w'=>∃B,e=.returned (.map (some B))∧Lv (fun z=>Fst z B l.length l∧P z) w':=
 hc.mono fun _ _ ⟨B,h1,h2,h3⟩=>⟨B,h1,⟨h2,hs _ _ h.out h3⟩⟩
end Go.Proofs.YtcfbjdplhgdpfaaGreatDoor
namespace Go.Proofs.YtcfbjdplhgdpfaaGreatDoor
set_option linter.unusedVariables false
set_option linter.unusedSimpArgs false
open Go.RowKit
def vcE:Option Ar→Int
 |none=>1
 |some v=>if v.1.length≠1 then 3 else 0
end Go.Proofs.YtcfbjdplhgdpfaaGreatDoor
namespace Go.Proofs.YtcfbjdplhgdpfaaGreatDoor
set_option linter.unusedVariables false
set_option linter.unusedSimpArgs false
open Go.RowKit
theorem int_snoc (O:List Nat) (x:Nat):valsI (intL (O++[x]))=valsI (intL O)++valsI [(x:Int)]:=by simp[intL,valsI]
end Go.Proofs.YtcfbjdplhgdpfaaGreatDoor
namespace Go.Proofs.YtcfbjdplhgdpfaaGreatDoor
set_option linter.unusedVariables false
set_option linter.unusedSimpArgs false
open Go.RowKit
theorem up_no {o:Option Ar} {sg:Int} (h:vcE o≠0):upK sg o=(none,vcE o):=by
 cases o with
 |none=>rfl
 |some v=>
  unfold vcE at h ⊢
  unfold upK
  dsimp only at h ⊢
  by_cases hl:v.1.length≠1
  · rw[if_pos hl,if_pos hl]
  · rw[if_neg hl]at h;exact absurd rfl h
theorem wh_no {o:Option Ar} (h:vcE o≠0):whK o=(none,vcE o):=by
 cases o with
 |none=>rfl
 |some v=>
  unfold vcE at h ⊢
  unfold whK
  dsimp only at h ⊢
  by_cases hl:v.1.length≠1
  · rw[if_pos hl,if_pos hl]
  · rw[if_neg hl]at h;exact absurd rfl h
theorem vc_yes {o:Option Ar} (h:vcE o=0):∃v,o=some v∧v.1.length=1:=by
 cases o with
 |none=>cases h
 |some v=>
  unfold vcE at h
  dsimp only at h
  by_cases hl:v.1.length≠1
  · rw[if_pos hl]at h;cases h
  · exact⟨v,rfl,by omega⟩
end Go.Proofs.YtcfbjdplhgdpfaaGreatDoor
namespace Go.Proofs.YtcfbjdplhgdpfaaGreatDoor
set_option linter.unusedVariables false
set_option linter.unusedSimpArgs false
open Go.RowKit
theorem natL_take (l:List Int) (k:Nat):(natL (l.take k)).sum≤(natL l).sum:=by
 have e:natL l=natL (l.take k)++natL (l.drop k):=by unfold natL;rw[←List.map_append,List.take_append_drop]
 rw[e,List.sum_append];omega
theorem natL_snoc {l:List Int} {k x:Nat} (hk:k<l.length) (hx:l.getD k 0=(x:Int)):natL (l.take (k+1))=natL (l.take k)++[x]:=by
 rw[takeI_snoc hk,hx]
 simp[natL]
theorem natL_len (l:List Int):(natL l).length=l.length:=by simp[natL]
theorem wh_yes {q:Ar} (hl:q.1.length=1) (ha:q.2.all nearM=true):whK (some q)=if∃x∈q.2,x<0 then(none,5)else if 4096<(natL q.2).sum then(none,8)else(some ([((natL q.2).sum:Int)],intL (whS 0 (natL q.2))),0):=by
 unfold whK
 dsimp only
 rw[if_neg (fun e=>e hl),ha,if_neg (by simp)]
theorem wh_far {q:Ar} (hl:q.1.length=1) (ha:q.2.all nearM=false):whK (some q)=(none,5):=by
 unfold whK
 dsimp only
 rw[if_neg (fun e=>e hl),if_pos ha]
theorem whS_I64 {l:List Nat} (h:l.length≤100000) {j:Nat}:I64 ((intL (whS 0 l)).getD j 0):=by
 rcases Nat.lt_or_ge j (intL (whS 0 l)).length with hj|hj
 · rw[List.getD_eq_getElem?_getD,List.getElem?_eq_getElem hj]
   obtain⟨i,hi,e⟩:=List.mem_map.1 (List.getElem_mem hj)
   have:=(wh_mem hi).2
   show I64 (intL (whS 0 l))[j]
   rw[←e]
   unfold I64;omega
 · rw[List.getD_eq_getElem?_getD,List.getElem?_eq_none hj]
   show I64 0
   unfold I64;omega
end Go.Proofs.YtcfbjdplhgdpfaaGreatDoor
namespace Go.Proofs.YtcfbjdplhgdpfaaGreatDoor
set_option linter.unusedVariables false
set_option linter.unusedSimpArgs false
open Go.RowKit
theorem un_no {o:Option Ar} (h:vcE o≠0):unK o=(none,vcE o):=by
 cases o with
 |none=>rfl
 |some v=>
  unfold vcE at h ⊢
  unfold unK
  dsimp only at h ⊢
  by_cases hl:v.1.length≠1
  · rw[if_pos hl,if_pos hl]
  · rw[if_neg hl]at h;exact absurd rfl h
theorem un_yes {q:Ar} (hl:q.1.length=1):unK (some q)=(some ([((unS q.2).length:Int)],unS q.2),0):=by
 unfold unK
 dsimp only
 rw[if_neg (fun e=>e hl)]
theorem fp_S (xs:List Int) (x:Int):fpS (xs.map S) (S x)=fpS xs x:=by
 induction xs with
 |nil=>rfl
 |cons y r ih=>
  show(if S y=S x then 0 else fpS (r.map S) (S x)+1)=if y=x then 0 else fpS r x+1
  by_cases h:y=x
  · rw[if_pos (by rw[h]),if_pos h]
  · rw[if_neg (fun e=>h (S_inj e)),if_neg h,ih]
theorem fp_here {xs:List Int} {i:Nat} (hi:i<xs.length):fpS xs (xs.getD i 0)=i↔xs.getD i 0∉xs.take i:=by
 have e:xs.getD i 0=xs[i]:=by rw[List.getD_eq_getElem?_getD,List.getElem?_eq_getElem hi];rfl
 rw[e]
 constructor
 · intro h hm
   obtain⟨j,hj,e2⟩:=List.getElem_of_mem hm
   rw[List.length_take]at hj
   rw[List.getElem_take]at e2
   exact fp_min (l:=xs) (x:=xs[i]) (k:=j) (by omega) (by rw[List.getElem?_eq_getElem (by omega),e2])
 · intro h
   exact fp_one hi (List.getElem?_eq_getElem hi) fun j hj e2=>h (by
    rw[List.getElem?_eq_getElem (by omega)]at e2
    injection e2 with e2
    rw[←e2]
    exact List.mem_take_iff_getElem.2 ⟨j,by omega,rfl⟩)
theorem un_take {xs:List Int} {i:Nat} (hi:i<xs.length):unS (xs.take (i+1))=unS (xs.take i)++(if fpS xs (xs.getD i 0)=i then[xs.getD i 0]else[]):=by
 rw[takeI_snoc hi,un_snoc]
 congr 1
 by_cases h:fpS xs (xs.getD i 0)=i
 · rw[if_pos h,if_neg ((fp_here hi).1 h)]
 · rw[if_neg h,if_pos (by
    by_cases hm:xs.getD i 0∈xs.take i
    · exact hm
    · exact absurd ((fp_here hi).2 hm) h)]
end Go.Proofs.YtcfbjdplhgdpfaaGreatDoor
namespace Go.Proofs.YtcfbjdplhgdpfaaGreatDoor
set_option linter.unusedVariables false
set_option linter.unusedSimpArgs false
open Go.RowKit
end Go.Proofs.YtcfbjdplhgdpfaaGreatDoor
namespace Go.Proofs.YtcfbjdplhgdpfaaGreatDoor
set_option linter.unusedVariables false
set_option linter.unusedSimpArgs false
open Go.RowKit
def PlO (q:Ar) (many:Int) (W:World) (e:Ending) (W':World):Prop:=
 ∃a n c,e=.returned (.tuple #[.slice a n c,.int .i64 (plE q many)])∧(plE q many=0→n=q.2.length∧Sl W' a n q.2∧n≤c∧c≤maxLen)∧Below W.heap.size W W'
theorem pl_far {q:Ar} {many:Int} (h:q.2.all nearM=false):plE q many=5:=by
 unfold plE;rw[if_pos h]
theorem pl_bad {q:Ar} {many:Int} (h:q.2.all nearM=true) {j:Nat} (hj:j<q.2.length) (h2:q.2.getD j 0<0∨many≤q.2.getD j 0):plE q many=6:=by
 unfold plE
 rw[h,if_neg (by simp),if_pos]
 refine⟨q.2[j],List.getElem_mem hj,?_⟩
 rw[List.getD_eq_getElem?_getD,List.getElem?_eq_getElem hj,Option.getD_some]at h2
 exact h2
theorem pl_all {q:Ar} {many:Int} (h:q.2.all nearM=true) (h2:∀j,j<q.2.length→¬(q.2.getD j 0<0∨many≤q.2.getD j 0)):plE q many=0:=by
 unfold plE
 rw[h,if_neg (by simp),if_neg]
 rintro⟨x,hx,hc⟩
 obtain⟨j,hj,rfl⟩:=List.getElem_of_mem hx
 have:=h2 j hj
 rw[List.getD_eq_getElem?_getD,List.getElem?_eq_getElem hj,Option.getD_some]at this
 exact this hc
theorem live_pl {P:World→Prop} {w:World} {f:FuncId} {args:Array Value} {q:Ar} {many:Int} (h:Lv P w) (hc:Calls Tryz.prog f args w (PlO q many w))
 (hs:Stb P:=by repeat' (first|exact Stb.bel _|exact Stb.bx|exact Stb.vl|exact Stb.sl|exact Stb.st|refine Stb.and ?_ ?_|exact Stb.triv)):
 Calls Tryz.prog f args w fun e w'=>∃a n c,e=.returned (.tuple #[.slice a n c,.int .i64 (plE q many)])∧(plE q many=0→n=q.2.length∧Sl w' a n q.2∧n≤c∧c≤maxLen)∧Lv P w':=
 hc.mono fun _ _ ⟨a,n,c,h1,h2,h3⟩=>⟨a,n,c,h1,h2,⟨hs _ _ h.out h3⟩⟩
end Go.Proofs.YtcfbjdplhgdpfaaGreatDoor

import Derived.Test.YtbijncndjlmmdaaGreatDoorMbi
import Derived.Test.YtbijncndjlmmdaaGreatDoorMbg
import Derived.Test.YtbijncndjlmmdaaGreatDoorMap
import Derived.Test.YtbijncndjlmmdaaGreatDoorMaq
import Derived.Test.YtbijncndjlmmdaaGreatDoorMau
set_option maxHeartbeats 3200000
set_option maxRecDepth 100000
namespace Go.Proofs.YtbijncndjlmmdaaGreatDoor
set_option linter.unusedVariables false
set_option linter.unusedSimpArgs false
open Go.RowKit
def AvQ (W:World) (a:Option Addr) (n c:Nat) (b:Option Addr) (m d:Nat) (x:Ar):Prop:=Av W a n c b m d x.1 (x.2.map S) (some x)
structure VbIs (W0:World) (T:TypeId) (p:Value) (n1 n2 n0:FuncId) (f:Ar→Option Ar×Int) (g:Ar→Ar→Option Ar×Int) (u:Option Ar):Prop where
 m1:∀w,(method 390 T p "One").run Tryz.prog w=.ok (n1,p) w
 m2:∀w,(method 390 T p "Two").run Tryz.prog w=.ok (n2,p) w
 m0:∀w,(method 390 T p "Unit").run Tryz.prog w=.ok (n0,p) w
 a2:∀w,(nilAhead 390 T p "Two").run Tryz.prog w=.ok (some false) w
 e1:∀args w,(callFunc n1 args).run Tryz.prog w=.ok (.enter n1 args) w
 e2:∀args w,(callFunc n2 args).run Tryz.prog w=.ok (.enter n2 args) w
 e0:∀args w,(callFunc n0 args).run Tryz.prog w=.ok (.enter n0 args) w
 one:∀{w:World} {a b:Option Addr} {n c m d:Nat} {x:Ar},Below W0.heap.size W0 w→AvQ w a n c b m d x→Calls Tryz.prog n1 #[p,.agg #[.slice a n c,.slice b m d]] w (MEnd (f x) w)
 two:∀{w:World} {a b a2 b2:Option Addr} {n c m d n2' c2 m2' d2:Nat} {x y:Ar},Below W0.heap.size W0 w→AvQ w a n c b m d x→AvQ w a2 n2' c2 b2 m2' d2 y→Calls Tryz.prog n2 #[p,.agg #[.slice a n c,.slice b m d],.agg #[.slice a2 n2' c2,.slice b2 m2' d2]] w (MEnd (g x y) w)
 unit:∀{w:World},Below W0.heap.size W0 w→Calls Tryz.prog n0 #[p] w (UEnd u w)
 v1:Vb1 f
 v2:Vb2 g
 vu:Rok u
def VE (r:Option Ar×Int) (K:World→Prop) (e:Ending) (W':World):Prop:=
 ∃a n c b m d,e=.returned (.tuple #[.agg #[.slice a n c,.slice b m d],.int .i64 r.2])∧(∀q,r.1=some q→Vl W' a n b m q.1 (q.2.map S))∧K W'
theorem Stb.av {a b:Option Addr} {n c m d:Nat} {l:List Int} {es:List ByteArray} {o:Option Ar}:Stb fun w=>Av w a n c b m d l es o:=fun _ _ h hb=>h.below hb
theorem Stb.avq {a b:Option Addr} {n c m d:Nat} {x:Ar}:Stb fun w=>AvQ w a n c b m d x:=fun _ _ h hb=>h.below hb
theorem boxed_bel {W W':World} {g:Nat} {t:TypeId} {v:Value} (h:Boxed W g t v) (hb:Below W.heap.size W W'):Boxed W' g t v:=(hb.block g h.lt).trans h
theorem Stb.boxed {g:Nat} {t:TypeId} {v:Value}:Stb fun w=>Boxed w g t v:=fun _ _ h hb=>boxed_bel h hb
theorem go_to {P:World→Prop} {w w':World} (h:Lv P w) (hb:Below w.heap.size w w')
 (hs:Stb P:=by repeat' (first|exact Stb.bel _|exact Stb.bx|exact Stb.vl|exact Stb.avq|exact Stb.av|exact Stb.boxed|refine Stb.and ?_ ?_|exact Stb.triv)):Lv P w':=⟨hs _ _ h.out hb⟩
section
variable {W W0 w:World} {a b:Option Addr} {n c m d:Nat} {x y:Ar} {T:TypeId} {p:Value} {n1 n2 n0:FuncId} {f:Ar→Option Ar×Int} {g:Ar→Ar→Option Ar×Int} {u:Option Ar}
theorem Av.q {l:List Int} {es:List ByteArray} (h:Av W a n c b m d l es (some x)):AvQ W a n c b m d x:=by
 obtain⟨e1,e2,_⟩:=h.i
 subst e1 e2
 exact h
theorem AvQ.below (h:AvQ W a n c b m d x) (hb:Below W.heap.size W w):AvQ w a n c b m d x:=Av.below h hb
theorem AvQ.soft (h:AvQ W a n c b m d x) (hb:Soft W w):AvQ w a n c b m d x:=Av.soft h hb
theorem ts_some {r:Option Ar×Int} {a b:Option Addr} {n m:Nat} (h:Vl W a n b m (TS r.1).1 (TS r.1).2):∀q,r.1=some q→Vl W a n b m q.1 (q.2.map S):=by
 intro q e
 rw[e]at h;exact h
theorem ve_box {g n0 c0 m0 d0:Nat} {a0 b0:Option Addr} {r:Option Ar×Int} (h:Bx w g a0 n0 c0 b0 m0 d0) (hb:Below W.heap.size W w) (hg:W.heap.size≤g) (hv:∀q,r.1=some q→Vl w a n b m q.1 (q.2.map S)):
 VE r (fun w'=>Below W.heap.size W w') (.returned (.tuple #[.agg #[.slice a n c,.slice b m d],.int .i64 r.2])) ((w.setCell ⟨g,0,none⟩ (.slice a n c)).setCell ⟨g,1,none⟩ (.slice b m d)):=
 ⟨a,n,c,b,m,d,rfl,fun q e=>⟨h.sl (hv q e).s _ _,h.st (hv q e).t _ _,(hv q e).mm⟩,below_made hb hg _ _⟩
theorem VE.mono {r:Option Ar×Int} {K K':World→Prop} {e:Ending} {w:World} (h:VE r K e w) (hk:∀w,K w→K' w):VE r K' e w:=by
 obtain⟨a,n,c,b,m,d,rfl,hv,k⟩:=h
 exact⟨a,n,c,b,m,d,rfl,hv,hk _ k⟩
theorem ea1_is (V:VbIs W0 T p n1 n2 n0 f g u) {gf:Nat} (hw:Below W0.heap.size W0 W) (hgf:Boxed W gf 54 (.iface T p)) (h1:AvQ W a n c b m d x) (i:Int):
 Calls Tryz.prog 36 #[.int .i64 i,.agg #[.slice a n c,.slice b m d],.pointer (some ⟨gf,0,none⟩)] W (VE (f x) (fun w'=>Below W.heap.size W w')):=by
 have KC:=Lib.hid (fun w (hb:Below W.heap.size W w)=>V.one (hw.trans (hb.mono hw.size)) (h1.below hb))
 have hm1:=V.m1
 have hm2:=V.m2
 have he1:=V.e1
 have he2:=V.e2
 have h:Lv (fun w=>Bx w (W.heap.size+1) none 0 0 none 0 0∧Bx w W.heap.size a n c b m d∧Boxed w gf 54 (.iface T p)∧Below W.heap.size W w) ((W.alloc (.cells #[.slice a n c,.slice b m d] 25)).alloc (.cells #[.slice none 0 0,.slice none 0 0] 25)):=⟨⟨(Bx.two W _ _ _ _ _ _ _),((Bx.new W a n c b m d).alloc _),((hgf.alloc _).alloc _),((Below.refl _ _).alloc (Nat.le_refl _) _).alloc (by simp) _⟩⟩
 generalize f x=r at*
 clear V hw h1 hgf
 go_enter Tryz.func36,Tryz.ntmps36
 have x1:=h.out.2.1.c0
 have x2:=h.out.2.1.c1
 have z0:=h.out.2.2.1.cell
 go_wp2_with fail
 refine(KC.out _ h.out.2.2.2).mono ?_
 rintro e w2 ⟨ar,nr,cr,br,mr,dr,rfl,hv,hq⟩
 replace h:=go_to h hq
 have HV:=Lib.hid hv
 clear hv hq x1 x2 z0
 have y0:=h.out.1.c0
 have y3:=h.out.1.c1
 have f0:=h.out.1.f 0
 have f1:=h.out.1.f 1
 go_wp2_with fail
 have hR:=h.out.1.set ar nr cr br mr dr
 have r0:=hR.c0
 have r1:=hR.c1
 exact bodyPost_ret (v:=.tuple #[.agg #[.slice ar nr cr,.slice br mr dr],.int .i64 r.2]) (by simp[results,Tryz.results36,go_sem,r0,r1]) rfl (ve_box (r:=r) h.out.1 h.out.2.2.2 (by omega) (ts_some HV.out.v))
theorem bo1_is (V:VbIs W0 T p n1 n2 n0 f g u) {gf gw:Nat} {a2 b2:Option Addr} {m1 c2 m2 d2:Nat} (hw:Below W0.heap.size W0 W) (hgf:Boxed W gf 54 (.iface T p)) (hgw:Bx W gw a2 m1 c2 b2 m2 d2) (h1:AvQ W a n c b m d x) (h2:AvQ W a2 m1 c2 b2 m2 d2 y) (i:Int):
 Calls Tryz.prog 59 #[.int .i64 i,.agg #[.slice a n c,.slice b m d],.pointer (some ⟨gf,0,none⟩),.pointer (some ⟨gw,0,none⟩)] W (VE (g x y) (fun w'=>Below W.heap.size W w')):=by
 have KC:=Lib.hid (fun w (hb:Below W.heap.size W w)=>V.two (hw.trans (hb.mono hw.size)) (h1.below hb) (h2.below hb))
 have hm1:=V.m1
 have hm2:=V.m2
 have he1:=V.e1
 have he2:=V.e2
 have h:Lv (fun w=>Bx w (W.heap.size+1) none 0 0 none 0 0∧Bx w W.heap.size a n c b m d∧Boxed w gf 54 (.iface T p)∧Bx w gw a2 m1 c2 b2 m2 d2∧Below W.heap.size W w) ((W.alloc (.cells #[.slice a n c,.slice b m d] 25)).alloc (.cells #[.slice none 0 0,.slice none 0 0] 25)):=⟨⟨(Bx.two W _ _ _ _ _ _ _),((Bx.new W a n c b m d).alloc _),((hgf.alloc _).alloc _),((hgw.alloc _).alloc _),((Below.refl _ _).alloc (Nat.le_refl _) _).alloc (by simp) _⟩⟩
 generalize g x y=r at*
 clear V hw h1 h2 hgf hgw
 go_enter Tryz.func59,Tryz.ntmps59
 have x1:=h.out.2.1.c0
 have x2:=h.out.2.1.c1
 have z0:=h.out.2.2.1.cell
 have z1:=h.out.2.2.2.1.c0
 have z1a:=h.out.2.2.2.1.c1
 go_wp2_with fail
 refine(KC.out _ h.out.2.2.2.2).mono ?_
 rintro e w2 ⟨ar,nr,cr,br,mr,dr,rfl,hv,hq⟩
 replace h:=go_to h hq
 have HV:=Lib.hid hv
 clear hv hq x1 x2 z0 z1 z1a
 have y0:=h.out.1.c0
 have y3:=h.out.1.c1
 have f0:=h.out.1.f 0
 have f1:=h.out.1.f 1
 go_wp2_with fail
 have hR:=h.out.1.set ar nr cr br mr dr
 have r0:=hR.c0
 have r1:=hR.c1
 exact bodyPost_ret (v:=.tuple #[.agg #[.slice ar nr cr,.slice br mr dr],.int .i64 r.2]) (by simp[results,Tryz.results59,go_sem,r0,r1]) rfl (ve_box (r:=r) h.out.1 h.out.2.2.2.2 (by omega) (ts_some HV.out.v))
theorem wh1_is (V:VbIs W0 T p n1 n2 n0 f g u) {gf gv:Nat} {a2 b2:Option Addr} {m1 c2 m2 d2:Nat} (hw:Below W0.heap.size W0 W) (hgf:Boxed W gf 54 (.iface T p)) (hgv:Bx W gv a2 m1 c2 b2 m2 d2) (h1:AvQ W a n c b m d x) (h2:AvQ W a2 m1 c2 b2 m2 d2 y) (i:Int):
 Calls Tryz.prog 100 #[.int .i64 i,.agg #[.slice a n c,.slice b m d],.pointer (some ⟨gf,0,none⟩),.pointer (some ⟨gv,0,none⟩)] W (VE (g y x) (fun w'=>Below W.heap.size W w')):=by
 have KC:=Lib.hid (fun w (hb:Below W.heap.size W w)=>V.two (hw.trans (hb.mono hw.size)) (h2.below hb) (h1.below hb))
 have hm1:=V.m1
 have hm2:=V.m2
 have he1:=V.e1
 have he2:=V.e2
 have h:Lv (fun w=>Bx w (W.heap.size+1) none 0 0 none 0 0∧Bx w W.heap.size a n c b m d∧Boxed w gf 54 (.iface T p)∧Bx w gv a2 m1 c2 b2 m2 d2∧Below W.heap.size W w) ((W.alloc (.cells #[.slice a n c,.slice b m d] 25)).alloc (.cells #[.slice none 0 0,.slice none 0 0] 25)):=⟨⟨(Bx.two W _ _ _ _ _ _ _),((Bx.new W a n c b m d).alloc _),((hgf.alloc _).alloc _),((hgv.alloc _).alloc _),((Below.refl _ _).alloc (Nat.le_refl _) _).alloc (by simp) _⟩⟩
 generalize g y x=r at*
 clear V hw h1 h2 hgf hgv
 go_enter Tryz.func100,Tryz.ntmps100
 have x1:=h.out.2.1.c0
 have x2:=h.out.2.1.c1
 have z0:=h.out.2.2.1.cell
 have z1:=h.out.2.2.2.1.c0
 have z1a:=h.out.2.2.2.1.c1
 go_wp2_with fail
 refine(KC.out _ h.out.2.2.2.2).mono ?_
 rintro e w2 ⟨ar,nr,cr,br,mr,dr,rfl,hv,hq⟩
 replace h:=go_to h hq
 have HV:=Lib.hid hv
 clear hv hq x1 x2 z0 z1 z1a
 have y0:=h.out.1.c0
 have y3:=h.out.1.c1
 have f0:=h.out.1.f 0
 have f1:=h.out.1.f 1
 go_wp2_with fail
 have hR:=h.out.1.set ar nr cr br mr dr
 have r0:=hR.c0
 have r1:=hR.c1
 exact bodyPost_ret (v:=.tuple #[.agg #[.slice ar nr cr,.slice br mr dr],.int .i64 r.2]) (by simp[results,Tryz.results100,go_sem,r0,r1]) rfl (ve_box (r:=r) h.out.1 h.out.2.2.2.2 (by omega) (ts_some HV.out.v))
end
end Go.Proofs.YtbijncndjlmmdaaGreatDoor
namespace Go.Proofs.YtbijncndjlmmdaaGreatDoor
set_option linter.unusedVariables false
set_option linter.unusedSimpArgs false
open Go.RowKit
def Its (w:World) (av:Option Addr) (k:Nat) (s:List Int) (p:Nat→List ByteArray):Prop:=
 0<k→∃g,av=some ⟨g,0,none⟩∧∀j,j<k→∃a n c b m d,w.cell? ⟨g,j*2,none⟩=some (.slice a n c)∧w.cell? ⟨g,j*2+1,none⟩=some (.slice b m d)∧Vl w a n b m s (p j)
theorem Its.below {w w':World} {av:Option Addr} {k:Nat} {s:List Int} {p:Nat→List ByteArray} (h:Its w av k s p) (hb:Below w.heap.size w w'):Its w' av k s p:=by
 intro hk
 obtain⟨g,e,h⟩:=h hk
 refine⟨g,e,fun j hj=> ?_⟩
 obtain⟨a,n,c,b,m,d,h1,h2,h3⟩:=h j hj
 exact⟨a,n,c,b,m,d,(hb.cell (p:=⟨g,j*2,none⟩) (World.block_lt_of_cell? w _ h1)).trans h1,(hb.cell (p:=⟨g,j*2+1,none⟩) (World.block_lt_of_cell? w _ h2)).trans h2,h3.below hb⟩
def cat (p:Nat→List ByteArray):Nat→List ByteArray
 | 0=>[]
 |k+1=>cat p k++p k
theorem cat_len (p:Nat→List ByteArray) {j k:Nat} (h:j≤k):(cat p j).length≤(cat p k).length:=by
 induction k with
 |zero=>rw[show j=0 by omega];exact Nat.le_refl _
 |succ k ih=>
  rcases Nat.lt_or_ge j (k+1)with h1|h1
  · have:=ih (by omega)
    show _≤(cat p k++p k).length
    rw[List.length_append];omega
  · rw[show j=k+1 by omega];exact Nat.le_refl _
theorem valsS_append (l k:List ByteArray):valsS l++valsS k=valsS (l++k):=by unfold valsS;rw[List.map_append]
end Go.Proofs.YtbijncndjlmmdaaGreatDoor
namespace Go.Proofs.YtbijncndjlmmdaaGreatDoor
set_option linter.unusedVariables false
set_option linter.unusedSimpArgs false
open Go.RowKit
def JE (r:Option Ar×Int) (W:World) (e:Ending) (W':World):Prop:=
 ∃a n c b m d,e=.returned (.tuple #[.agg #[.slice a n c,.slice b m d],.int .i64 r.2])∧(∀q,r.1=some q→W'.ownsRow W.heap.size 3 1 (.slice a n c) n (valsI q.1)∧St W' b m (q.2.map S)∧m≤9223372036854775807)∧Below W.heap.size W W'
def Its2 (w:World) (av:Option Addr) (qs:List Ar):Prop:=
 0<qs.length→∃g,av=some ⟨g,0,none⟩∧∀j (hj:j<qs.length),∃a n c b m d,w.cell? ⟨g,j*2,none⟩=some (.slice a n c)∧w.cell? ⟨g,j*2+1,none⟩=some (.slice b m d)∧Vl w a n b m qs[j].1 (qs[j].2.map S)
def JY (k:Nat) (s:List Int) (es:List ByteArray) (W:World) (e:Ending) (W':World):Prop:=
 ∃a n c b m d,e=.returned (.tuple #[.agg #[.slice a n c,.slice b m d],.int .i64 0])∧W'.ownsRow W.heap.size 3 1 (.slice a n c) n (valsI ((k:Int)::s))∧St W' b m es∧m≤9223372036854775807∧Below W.heap.size W W'
theorem JoinC_is {av:Option Addr} {k cv:Nat} {s:List Int} {p:Nat→List ByteArray} (W:World) (h:Its W av k s p) (hk:0<k) (hk3:k≤100000) (hs:s.length≤20) (hsz:szE ((k:Int)::s)=0) (hcat:(cat p k).length≤100000):
 Calls Tryz.prog 73 #[.slice av k cv] W (JY k s (cat p k) W):=by
 have HI:=Lib.hid h
 obtain⟨g,rfl,hit⟩:=h hk
 obtain⟨a0,n0,c0,b0,m0,d0,q0,q1,hV0⟩:=hit 0 hk
 rw[show 0*2=0 from rfl]at q0 q1
 have hn0:n0≤20:=by have:=hV0.s.1;omega
 have hg:=World.block_lt_of_cell? W _ q0
 have hA:=Bx.new W none 0 0 none 0 0
 have hb0:Below W.heap.size W (W.alloc (.cells #[.slice none 0 0,.slice none 0 0] 25)):=(Below.refl _ _).alloc (Nat.le_refl _) _
 have f0:=(hb0.cell (p:=⟨g,0,none⟩) hg).trans q0
 have H0:=Lib.hid hV0.s
 have HK:=Lib.hid (And.intro hsz (And.intro hcat hs))
 have e0:((k:Int)==0)=false:=beq_eq_false_iff_ne.2 (by omega)
 have e1:(0:Int)<(k:Int):=by omega
 clear hit q0 q1 hV0 hsz hcat h
 go_enter Tryz.func73,Tryz.ntmps73
 go_wp2_with fail
 go_loopw [23] (fun i wr=>∃j:Nat,i=.int .i64 j∧j≤k∧Bx wr W.heap.size none 0 0 none 0 0∧Below W.heap.size W wr) (fun i _=>k-(intOf i).toNat)
 case atStart=>exact⟨0,rfl,by omega,hA,hb0⟩
 case round=>
  obtain⟨j,rfl,hj,hA1,hb1⟩:=hrel
  clear hA hb0 f0
  by_cases hlt:j<k
  · have e2:(j:Int)<(k:Int):=by omega
    have hIr:=HI.out.below hb1
    obtain⟨g',eg,hit⟩:=hIr (by omega)
    injection eg with eg
    injection eg with eg _ _
    subst eg
    obtain⟨a,n,c,b,m,d,q0,q1,hV⟩:=hit j hlt
    have hn:n≤20:=by have:=hV.s.1;have:=HK.out.2.2;omega
    have KS:=Lib.hid (Same_is a a0 n c n0 c0 s s (wr.alloc (.cells #[.slice a n c,.slice b m d] 25)) ((hV.s).below ((Below.refl _ _).alloc (Nat.le_refl _) _)) ((H0.out.below hb1).below ((Below.refl _ _).alloc (Nat.le_refl _) _)) (by omega) (by omega))
    have hb2:=hb1.alloc hb1.size (.cells #[.slice a n c,.slice b m d] 25)
    have hA2:=hA1.alloc (.cells #[.slice a n c,.slice b m d] 25)
    clear hIr hit hV hA1 hb1
    go_wp2_with fail
    refine KS.out.mono ?_
    rintro y w2 ⟨rfl,hb⟩
    have hA3:=hA2.below hb hA2.lt
    have hb3:=hb2.trans (hb.mono hb2.size)
    clear KS hA2 hb2 hb q0 q1
    have es:(s==s)=true:=beq_self_eq_true s
    go_wp2_with fail
    go_roundw
    case rel=>exact⟨j+1,by go_num,by omega,hA3,hb3⟩
    case measure=>simp[intOf];omega
  · have e2:¬(j:Int)<(k:Int):=by omega
    obtain rfl:j=k:=by omega
    have hb2:=hb1.alloc hb1.size (.cells #[.int .i64 j] 3)
    have hA2:=hA1.alloc (.cells #[.int .i64 j] 3)
    have hr0:=Lib.hid (Sl.row (l:=[(j:Int)]) (heap_alloc_new wr (.cells #[.int .i64 j] 3))).rd
    have hr1:=Lib.hid ((H0.out.below hb1).below ((Below.refl wr.heap.size wr).alloc (Nat.le_refl _) (.cells #[.int .i64 j] 3))).rd
    have hn0s:=H0.out.1
    have hlA:W.heap.size+1≤wr.heap.size:=hA1.lt
    clear hA1 hb1
    go_wp2_with (at_builtin;refine wpList_append_full rfl (.tmp 36) (.tmp 37) 22 rfl 3 (.int .i64 0) 8 Tryz.underlying22 infoInt1 rfl (by decide) (some ⟨wr.heap.size,0,none⟩) 1 [.int .i64 j] rfl hr0.out (by intro u hu;rw[List.mem_singleton]at hu;rw[hu];rfl) a0 n0 c0 (valsI s) rfl hr1.out (valsI_one s) (by omega) ?_;intro aj cj w2 hbj hrj hoj hej)
    have hS2:Sl w2 aj (1+n0) ((j:Int)::s):=Rd.sl hrj
    have hO2:w2.ownsRow (W.heap.size+1) 3 1 (.slice aj (1+n0) cj) (1+n0) (valsI ((j:Int)::s)):=by
     rcases Nat.eq_zero_or_pos n0 with e0|e0
     · obtain⟨x1,x2,x3⟩:=hej e0
       have e5:s=[]:=List.length_eq_zero_iff.1 (hn0s.trans e0)
       rw[x1,x2,x3,e0,e5]
       exact own_base (own_new1 wr (j:Int)) hlA
     · exact own_base (hoj e0) (Nat.le_trans hlA (by simp))
    have HO2:=Lib.hid hO2
    have hb3:=hb2.trans (hbj.mono hb2.size)
    have hA3:=hA2.below hbj hA2.lt
    have hsz:=Size_is aj (1+n0) cj ((j:Int)::s) w2 hS2
    unfold SizeIs at hsz
    rw[HK.out.1]at hsz
    have KZ:=Lib.hid hsz
    have HS2:=Lib.hid hS2
    clear hr0 hr1 hb2 hA2 hrj hbj hsz hS2 hoj hej hO2
    generalize szV ((j:Int)::s)=vz at KZ
    go_wp2_with fail
    refine KZ.out.mono ?_
    rintro y w9 ⟨rfl,rfl⟩
    go_wp2_with fail
    go_loopw [10,50] (fun ev i wq=>∃q:Nat,i=.int .i64 q∧q≤j∧wq.ownsRow w2.heap.size 9 1 ev (cat p q).length (valsS (cat p q))∧Below w2.heap.size w2 wq) (fun _ i _=>j-(intOf i).toNat)
    case atStart=>exact⟨0,rfl,by omega,World.ownsRow_nil _ _ _ _,Below.refl _ _⟩
    case round=>
     obtain⟨q,rfl,hq,hown,hbq⟩:=hrel
     by_cases hlt2:q<j
     · have e3:(q:Int)<(j:Int):=by omega
       have hIr:=HI.out.below (hb3.trans (hbq.mono hb3.size))
       obtain⟨g',eg,hit⟩:=hIr (by omega)
       injection eg with eg
       injection eg with eg _ _
       subst eg
       obtain⟨a,n,c,b,m,d,q0,q1,hV⟩:=hit q hlt2
       have hr2:=Lib.hid ((hV.t).below ((Below.refl wr.heap.size wr).alloc (Nat.le_refl _) (.cells #[.slice a n c,.slice b m d] 25))).rd
       have ho2:=Lib.hid (hown.alloc (.cells #[.slice a n c,.slice b m d] 25))
       have hml:=hV.t.1
       have hcl:=cat_len p (show q+1≤j by omega)
       have hcl2:(cat p (q+1)).length=(cat p q).length+(p q).length:=by show(cat p q++p q).length=_;rw[List.length_append]
       have hcm:=HK.out.2.1
       have hbs:=hbq.size
       have HB:=Lib.hid hbq
       clear hIr hit hV hown hbq
       go_wp2_with (at_builtin;refine wpList_append_rd rfl (.tmp 54) (.tmp 56) 23 rfl w2.heap.size 9 (.string ⟨#[]⟩) 16 Tryz.underlying23 infoStr rfl (by decide) _ (cat p q).length (valsS (cat p q)) rfl ho2.out b m d (valsS (p q)) rfl hr2.out (valsS_one _) (by omega) (by simp;omega) ?_;intro av' cv' w3 hown3 hg3)
       have hb4:Below w2.heap.size w2 w3:=(HB.out.alloc HB.out.size _).trans (grown_below' hg3 (fun g' hg'=>(ho2.out.lt g' hg').1) (by simp;omega))
       have hown4:w3.ownsRow w2.heap.size 9 1 (.slice av' ((cat p q).length+m) cv') (cat p (q+1)).length (valsS (cat p (q+1))):=by
        rw[hcl2,hml]
        show w3.ownsRow _ _ _ _ _ (valsS (cat p q++p q))
        rw[←valsS_append]
        exact hown3
       clear hg3 hown3 ho2 hr2 hcl hcl2 hcm
       go_wp2_with fail
       go_roundw
       case rel=>exact⟨q+1,by go_num,by omega,hown4,hb4⟩
       case measure=>simp[intOf];omega
     · have e3:¬(q:Int)<(j:Int):=by omega
       obtain rfl:q=j:=by omega
       obtain⟨ae,ce,rfl⟩:=own_form hown
       have hT:=own_st hown
       have hA4:=hA3.below hbq hA3.lt
       have hS4:=HS2.out.below hbq
       have hb4:=hb3.trans (hbq.mono hb3.size)
       have hO4:=own_below HO2.out hbq
       have hcm:=HK.out.2.1
       have y0:=hA4.c0
       have y1:=hA4.c1
       have f0:=hA4.f 0
       have f1:=hA4.f 1
       clear hown hbq hA3 hb3
       go_wp2_with fail
       have hA5:=hA4.set aj (1+n0) cj ae (cat p q).length ce
       have r0:=hA5.c0
       have r1:=hA5.c1
       exact bodyPost_ret (v:=.tuple #[.agg #[.slice aj (1+n0) cj,.slice ae (cat p q).length ce],.int .i64 0]) (by simp[results,Tryz.results73,go_sem,r0,r1]) rfl ⟨_,_,_,_,_,_,rfl,own_base (own_set (own_set hO4 (p:=⟨W.heap.size,0,none⟩) (by show W.heap.size<W.heap.size+1;omega) _) (p:=⟨W.heap.size,1,none⟩) (by show W.heap.size<W.heap.size+1;omega) _) (by omega),hA4.st hT _ _,by omega,below_made hb4 (Nat.le_refl _) _ _⟩
theorem JoinA_is {av:Option Addr} {k cv:Nat} {s s2:List Int} {p:Nat→List ByteArray} (W:World) {k0:Nat} (h:Its W av k0 s p) (h2:∃g,av=some ⟨g,0,none⟩∧∃a n c b m d es,W.cell? ⟨g,k0*2,none⟩=some (.slice a n c)∧W.cell? ⟨g,k0*2+1,none⟩=some (.slice b m d)∧Vl W a n b m s2 es) (hne:(s2==s)=false) (hk:0<k0) (hkk:k0<k) (hk3:k≤100000) (hs:s.length≤20) (hs2:s2.length≤20):
 Calls Tryz.prog 73 #[.slice av k cv] W (MEnd (none,4) W):=by
 have HI:=Lib.hid h
 have H2:=Lib.hid h2
 obtain⟨g,rfl,hit⟩:=h hk
 obtain⟨a0,n0,c0,b0,m0,d0,q0,q1,hV0⟩:=hit 0 hk
 rw[show 0*2=0 from rfl]at q0 q1
 have hn0:n0≤20:=by have:=hV0.s.1;omega
 have hg:=World.block_lt_of_cell? W _ q0
 have hA:=Bx.new W none 0 0 none 0 0
 have hb0:Below W.heap.size W (W.alloc (.cells #[.slice none 0 0,.slice none 0 0] 25)):=(Below.refl _ _).alloc (Nat.le_refl _) _
 have f0:=(hb0.cell (p:=⟨g,0,none⟩) hg).trans q0
 have H0:=Lib.hid hV0.s
 have HK:=Lib.hid (And.intro hs hs2)
 have e0:((k:Int)==0)=false:=beq_eq_false_iff_ne.2 (by omega)
 have e1:(0:Int)<(k:Int):=by omega
 clear hit q0 q1 hV0 h h2
 go_enter Tryz.func73,Tryz.ntmps73
 go_wp2_with fail
 go_loopw [23] (fun i wr=>∃j:Nat,i=.int .i64 j∧j≤k0∧Bx wr W.heap.size none 0 0 none 0 0∧Below W.heap.size W wr) (fun i _=>k-(intOf i).toNat)
 case atStart=>exact⟨0,rfl,by omega,hA,hb0⟩
 case round=>
  obtain⟨j,rfl,hj,hA1,hb1⟩:=hrel
  clear hA hb0 f0
  by_cases hlt:j<k0
  · have e2:(j:Int)<(k:Int):=by omega
    have hIr:=HI.out.below hb1
    obtain⟨g',eg,hit⟩:=hIr (by omega)
    injection eg with eg
    injection eg with eg _ _
    subst eg
    obtain⟨a,n,c,b,m,d,q0,q1,hV⟩:=hit j hlt
    have hn:n≤20:=by have:=hV.s.1;have:=HK.out.1;omega
    have KS:=Lib.hid (Same_is a a0 n c n0 c0 s s (wr.alloc (.cells #[.slice a n c,.slice b m d] 25)) ((hV.s).below ((Below.refl _ _).alloc (Nat.le_refl _) _)) ((H0.out.below hb1).below ((Below.refl _ _).alloc (Nat.le_refl _) _)) (by omega) (by omega))
    have hb2:=hb1.alloc hb1.size (.cells #[.slice a n c,.slice b m d] 25)
    have hA2:=hA1.alloc (.cells #[.slice a n c,.slice b m d] 25)
    clear hIr hit hV hA1 hb1
    go_wp2_with fail
    refine KS.out.mono ?_
    rintro y w2 ⟨rfl,hb⟩
    have hA3:=hA2.below hb hA2.lt
    have hb3:=hb2.trans (hb.mono hb2.size)
    clear KS hA2 hb2 hb q0 q1
    have es:(s==s)=true:=beq_self_eq_true s
    go_wp2_with fail
    go_roundw
    case rel=>exact⟨j+1,by go_num,by omega,hA3,hb3⟩
    case measure=>simp[intOf];omega
  · obtain rfl:j=k0:=by omega
    have e2:(j:Int)<(k:Int):=by omega
    obtain⟨g',eg,a,n,c,b,m,d,es,q0,q1,hV⟩:=H2.out
    injection eg with eg
    injection eg with eg _ _
    subst eg
    have hgl:=World.block_lt_of_cell? W _ q0
    replace q0:=(hb1.cell (p:=⟨g,j*2,none⟩) hgl).trans q0
    replace q1:=(hb1.cell (p:=⟨g,j*2+1,none⟩) hgl).trans q1
    replace hV:=hV.below hb1
    have hn:n≤20:=by have:=hV.s.1;have:=HK.out.2;omega
    have KS:=Lib.hid (Same_is a a0 n c n0 c0 s2 s (wr.alloc (.cells #[.slice a n c,.slice b m d] 25)) ((hV.s).below ((Below.refl _ _).alloc (Nat.le_refl _) _)) ((H0.out.below hb1).below ((Below.refl _ _).alloc (Nat.le_refl _) _)) (by omega) (by omega))
    have hb2:=hb1.alloc hb1.size (.cells #[.slice a n c,.slice b m d] 25)
    have hA2:=hA1.alloc (.cells #[.slice a n c,.slice b m d] 25)
    have HNE:=Lib.hid hne
    clear hV hA1 hb1 hne
    go_wp2_with fail
    refine KS.out.mono ?_
    rintro y w2 ⟨rfl,hb⟩
    have hA3:=hA2.below hb hA2.lt
    have hb3:=hb2.trans (hb.mono hb2.size)
    rw[HNE.out]
    have y0:=hA3.c0
    have y1:=hA3.c1
    have f0:=hA3.f 0
    have f1:=hA3.f 1
    clear KS hA2 hb2 hb q0 q1
    go_wp2_with fail
    have hR:=hA3.set none 0 0 none 0 0
    have r0:=hR.c0
    have r1:=hR.c1
    exact bodyPost_ret (v:=.tuple #[.agg #[.slice none 0 0,.slice none 0 0],.int .i64 4]) (by simp[results,Tryz.results73,go_sem,r0,r1]) rfl (mend_no hA3 hb3 (Nat.le_refl _))
theorem JoinB_is {av:Option Addr} {k cv:Nat} {s:List Int} {p:Nat→List ByteArray} (W:World) (h:Its W av k s p) (hk:0<k) (hk3:k≤100000) (hs:s.length≤20) (hsz:szE ((k:Int)::s)≠0):
 Calls Tryz.prog 73 #[.slice av k cv] W (MEnd (none,szE ((k:Int)::s)) W):=by
 have HI:=Lib.hid h
 obtain⟨ez,hez⟩:∃e,szE ((k:Int)::s)=e:=⟨_,rfl⟩
 rw[hez]
 rw[hez]at hsz
 obtain⟨g,rfl,hit⟩:=h hk
 obtain⟨a0,n0,c0,b0,m0,d0,q0,q1,hV0⟩:=hit 0 hk
 rw[show 0*2=0 from rfl]at q0 q1
 have hn0:n0≤20:=by have:=hV0.s.1;omega
 have hg:=World.block_lt_of_cell? W _ q0
 have hA:=Bx.new W none 0 0 none 0 0
 have hb0:Below W.heap.size W (W.alloc (.cells #[.slice none 0 0,.slice none 0 0] 25)):=(Below.refl _ _).alloc (Nat.le_refl _) _
 have f0:=(hb0.cell (p:=⟨g,0,none⟩) hg).trans q0
 have H0:=Lib.hid hV0.s
 have HK:=Lib.hid (And.intro (And.intro hez hsz) hs)
 have e0:((k:Int)==0)=false:=beq_eq_false_iff_ne.2 (by omega)
 have e1:(0:Int)<(k:Int):=by omega
 clear hit q0 q1 hV0 hsz hez h
 go_enter Tryz.func73,Tryz.ntmps73
 go_wp2_with fail
 go_loopw [23] (fun i wr=>∃j:Nat,i=.int .i64 j∧j≤k∧Bx wr W.heap.size none 0 0 none 0 0∧Below W.heap.size W wr) (fun i _=>k-(intOf i).toNat)
 case atStart=>exact⟨0,rfl,by omega,hA,hb0⟩
 case round=>
  obtain⟨j,rfl,hj,hA1,hb1⟩:=hrel
  clear hA hb0 f0
  by_cases hlt:j<k
  · have e2:(j:Int)<(k:Int):=by omega
    have hIr:=HI.out.below hb1
    obtain⟨g',eg,hit⟩:=hIr (by omega)
    injection eg with eg
    injection eg with eg _ _
    subst eg
    obtain⟨a,n,c,b,m,d,q0,q1,hV⟩:=hit j hlt
    have hn:n≤20:=by have:=hV.s.1;have:=HK.out.2;omega
    have KS:=Lib.hid (Same_is a a0 n c n0 c0 s s (wr.alloc (.cells #[.slice a n c,.slice b m d] 25)) ((hV.s).below ((Below.refl _ _).alloc (Nat.le_refl _) _)) ((H0.out.below hb1).below ((Below.refl _ _).alloc (Nat.le_refl _) _)) (by omega) (by omega))
    have hb2:=hb1.alloc hb1.size (.cells #[.slice a n c,.slice b m d] 25)
    have hA2:=hA1.alloc (.cells #[.slice a n c,.slice b m d] 25)
    clear hIr hit hV hA1 hb1
    go_wp2_with fail
    refine KS.out.mono ?_
    rintro y w2 ⟨rfl,hb⟩
    have hA3:=hA2.below hb hA2.lt
    have hb3:=hb2.trans (hb.mono hb2.size)
    clear KS hA2 hb2 hb q0 q1
    have es:(s==s)=true:=beq_self_eq_true s
    go_wp2_with fail
    go_roundw
    case rel=>exact⟨j+1,by go_num,by omega,hA3,hb3⟩
    case measure=>simp[intOf];omega
  · have e2:¬(j:Int)<(k:Int):=by omega
    obtain rfl:j=k:=by omega
    have hb2:=hb1.alloc hb1.size (.cells #[.int .i64 j] 3)
    have hA2:=hA1.alloc (.cells #[.int .i64 j] 3)
    have hr0:=Lib.hid (Sl.row (l:=[(j:Int)]) (heap_alloc_new wr (.cells #[.int .i64 j] 3))).rd
    have hr1:=Lib.hid ((H0.out.below hb1).below ((Below.refl wr.heap.size wr).alloc (Nat.le_refl _) (.cells #[.int .i64 j] 3))).rd
    have hn0s:=H0.out.1
    clear hA1 hb1
    go_wp2_with (at_builtin;refine wpList_append_full rfl (.tmp 36) (.tmp 37) 22 rfl 3 (.int .i64 0) 8 Tryz.underlying22 infoInt1 rfl (by decide) (some ⟨wr.heap.size,0,none⟩) 1 [.int .i64 j] rfl hr0.out (by intro u hu;rw[List.mem_singleton]at hu;rw[hu];rfl) a0 n0 c0 (valsI s) rfl hr1.out (valsI_one s) (by omega) ?_;intro aj cj w2 hbj hrj _ _)
    have hS2:Sl w2 aj (1+n0) ((j:Int)::s):=Rd.sl hrj
    have hb3:=hb2.trans (hbj.mono hb2.size)
    have hA3:=hA2.below hbj hA2.lt
    have hsz:=Size_is aj (1+n0) cj ((j:Int)::s) w2 hS2
    unfold SizeIs at hsz
    rw[HK.out.1.1]at hsz
    have hz0:=HK.out.1.2
    have KZ:=Lib.hid hsz
    have HS2:=Lib.hid hS2
    clear hr0 hr1 hb2 hA2 hrj hbj hsz hS2
    generalize szV ((j:Int)::s)=vz at KZ
    go_wp2_with fail
    refine KZ.out.mono ?_
    rintro y w9 ⟨rfl,rfl⟩
    have y0:=hA3.c0
    have y1:=hA3.c1
    have f0:=hA3.f 0
    have f1:=hA3.f 1
    go_wp2_with fail
    have hR:=hA3.set none 0 0 none 0 0
    have r0:=hR.c0
    have r1:=hR.c1
    exact bodyPost_ret (v:=.tuple #[.agg #[.slice none 0 0,.slice none 0 0],.int .i64 ez]) (by simp[results,Tryz.results73,go_sem,r0,r1]) rfl (mend_no hA3 hb3 (Nat.le_refl _))
def pJ (qs:List Ar) (j:Nat):List ByteArray:=(qs.getD j ([],[])).2.map S
theorem cat_flat (qs:List Ar):∀k,k≤qs.length→cat (pJ qs) k=((qs.take k).flatMap (·.2)).map S
 | 0,_=>rfl
 |k+1,h=>by
  show cat (pJ qs) k++pJ qs k=_
  have e:qs.take (k+1)=qs.take k++[qs[k]]:=by rw[List.take_add_one,List.getElem?_eq_getElem (show k<qs.length by omega)];rfl
  rw[cat_flat qs k (by omega),e,List.flatMap_append,List.map_append,List.flatMap_cons,List.flatMap_nil,List.append_nil]
  unfold pJ
  rw[List.getD_eq_getElem?_getD,List.getElem?_eq_getElem (show k<qs.length by omega)]
  rfl
theorem je_no {k:Int} {W:World} {e:Ending} {w:World} (h:MEnd (none,k) W e w):JE (none,k) W e w:=by
 obtain⟨a,n,c,b,m,d,rfl,_,hb⟩:=h
 exact⟨a,n,c,b,m,d,rfl,fun q e=>(by cases e),hb⟩
theorem Join_any {av:Option Addr} {cv:Nat} {qs:List Ar} (W:World) (h:Its2 W av qs) (h0:0<qs.length) (hk:qs.length≤100000) (hr:∀x∈qs,Rok (some x)):
 Calls Tryz.prog 73 #[.slice av qs.length cv] W (JE (joA qs) W):=by
 obtain⟨q0,r,rfl⟩:∃q r,qs=q::r:=by
  cases qs with
  |nil=>cases h0
  |cons q r=>exact⟨q,r,rfl⟩
 have hl20:∀x∈(q0::r),x.1.length≤20:=fun x hx=>by have:=(szE_may.1 (hr x hx).1).len;omega
 have hat:∀j (hj:j<(q0::r).length),(q0::r)[j].1=q0.1→∀a n b m,Vl W a n b m (q0::r)[j].1 ((q0::r)[j].2.map S)→Vl W a n b m q0.1 (pJ (q0::r) j):=by
  intro j hj e a n b m hv
  unfold pJ
  rw[List.getD_eq_getElem?_getD,List.getElem?_eq_getElem hj,←e]
  exact hv
 have hits:∀k,k≤(q0::r).length→(∀j (hj:j<(q0::r).length),j<k→(q0::r)[j].1=q0.1)→Its W av k q0.1 (pJ (q0::r)):=by
  intro k hk hall hk0
  obtain⟨g,e,hh⟩:=h h0
  refine⟨g,e,fun j hj=> ?_⟩
  obtain⟨a,n,c,b,m,d,c1,c2,hv⟩:=hh j (by omega)
  exact⟨a,n,c,b,m,d,c1,c2,hat j (by omega) (hall j (by omega) hj) _ _ _ _ hv⟩
 by_cases hall:∀x∈(q0::r),x.1=q0.1
 · have hall2:∀k,∀j (hj:j<(q0::r).length),j<k→(q0::r)[j].1=q0.1:=fun k j hj _=>hall _ (List.getElem_mem hj)
   by_cases hz:szE (((q0::r).length:Int)::q0.1)=0
   · have hy:=jo_yes (by simp) hall hz
     have hrk:=jo_rok hr
     rw[hy]at hrk
     have hp:=(szE_may.1 hz).pr
     have hlen:((q0::r).flatMap (·.2)).length≤4096:=by
      have h1:(((q0::r).flatMap (·.2)).length:Int)=pr (((q0::r).length:Int)::q0.1):=hrk.2.1
      omega
     have hcf:cat (pJ (q0::r)) (q0::r).length=((q0::r).flatMap (·.2)).map S:=by
      rw[cat_flat _ _ (Nat.le_refl _),List.take_length]
     rw[hy]
     refine(JoinC_is (p:=pJ (q0::r)) W (hits _ (Nat.le_refl _) (hall2 _)) h0 hk (hl20 _ (by simp)) hz (by rw[hcf,List.length_map];omega)).mono ?_
     rintro e w ⟨a,n,c,b,m,d,rfl,h1,h2,h3,h4⟩
     refine⟨a,n,c,b,m,d,rfl,?_,h4⟩
     intro q e
     injection e with e
     subst e
     rw[hcf]at h2
     exact⟨h1,h2,h3⟩
   · rw[jo_size (by simp) hall hz]
     exact(JoinB_is (p:=pJ (q0::r)) W (hits _ (Nat.le_refl _) (hall2 _)) h0 hk (hl20 _ (by simp)) hz).mono fun _ _ h=>je_no h
 · have hex:∃j,∃hj:j<(q0::r).length,(q0::r)[j].1≠q0.1:=by
    refine Classical.byContradiction fun hn=>hall fun x hx=> ?_
    obtain⟨j,hj,rfl⟩:=List.getElem_of_mem hx
    exact Classical.byContradiction fun hne=>hn ⟨j,hj,hne⟩
   obtain⟨k0,⟨hj0,hne⟩,hmin⟩:∃k0,(∃hj:k0<(q0::r).length,(q0::r)[k0].1≠q0.1)∧∀j,j<k0→∀hj:j<(q0::r).length,(q0::r)[j].1=q0.1:=by
    obtain⟨j,hj⟩:=hex
    induction j using Nat.strongRecOn with
    |ind j ih=>
     by_cases hm:∃i,i<j∧∃hi:i<(q0::r).length,(q0::r)[i].1≠q0.1
     · obtain⟨i,hi,hh⟩:=hm
       exact ih i hi hh
     · exact⟨j,hj,fun i hi hl=>Classical.byContradiction fun hne=>hm ⟨i,hi,hl,hne⟩⟩
   have hpos:0<k0:=Nat.pos_of_ne_zero fun e=>by subst e;exact hne rfl
   have hmem:(q0::r)[k0]∈r:=by
    obtain⟨k1,rfl⟩:∃k1,k0=k1+1:=⟨k0-1,by omega⟩
    exact List.getElem_mem (by simpa using hj0)
   rw[jo_unlike hmem hne]
   obtain⟨g,e,hh⟩:=h h0
   obtain⟨a,n,c,b,m,d,c1,c2,hv⟩:=hh k0 hj0
   exact(JoinA_is (p:=pJ (q0::r)) (s:=q0.1) (s2:=(q0::r)[k0].1) W (hits k0 (by omega) fun j hj hlt=>hmin j hlt hj) ⟨g,e,a,n,c,b,m,d,_,c1,c2,hv⟩ (beq_eq_false_iff_ne.2 hne) hpos hj0 hk (hl20 _ (by simp)) (hl20 _ (List.getElem_mem hj0))).mono fun _ _ h=>je_no h
end Go.Proofs.YtbijncndjlmmdaaGreatDoor

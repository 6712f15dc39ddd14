import Derived.Test.YtbijncndjlmmdaaGreatDoorMba
import Derived.Test.YtbijncndjlmmdaaGreatDoorMbc
import Derived.Test.YtbijncndjlmmdaaGreatDoorMbd
import Derived.BigRegion
import Derived.Test.YtbijncndjlmmdaaGreatDoorMbb
set_option maxHeartbeats 6400000
set_option maxRecDepth 100000
namespace Go.Proofs.YtbijncndjlmmdaaGreatDoor
set_option linter.unusedVariables false
set_option linter.unusedSimpArgs false
open Go.RowKit
theorem valsI_add (l m:List Int):valsI l++valsI m=valsI (l++m):=by simp[valsI]
def GrI (W:World) (e:Ending) (w':World):Prop:=∃a c,e=.returned (.slice a 0 c)∧w'.ownsRow W.heap.size 3 1 (.slice a 0 c) 0 []∧Below W.heap.size W w'
theorem GrowI_nil (n:Nat) (hn:n≤1000000) (W:World):Calls Tryz.prog 185 #[.slice none 0 0,.int .i64 n] W (GrI W):=by
 have h1:¬((n:Int)<0):=by omega
 have hw0:IntKind.i64.wrap (n:Int)=(n:Int):=IntWalk.i64_in _ (by omega)
 rcases Nat.eq_zero_or_pos n with h0|h0
 · subst h0
   go_enter Tryz.func185,Tryz.ntmps185
   go_wp2_with fail
   go_ret
   exact⟨none,0,rfl,World.ownsRow_nil _ _ _ _,Below.refl _ _⟩
 · have h2:(0:Int)<(n:Int):=by omega
   obtain⟨i0,hi,hz0,hz1,hz2⟩:=info_parts infoInt1
   have hrun:∀ty,(Builtin.append_ #[22,3] ty #[.slice none 0 0,.int .i64 n]).run Tryz.prog W=.ok (.slice (some ⟨W.heap.size,0,none⟩) n (grownCap W n 0 3)) (W.drew.alloc (.cells (Builtin.zeroCells (Value.int .i64 0).cells n++Builtin.zeroCells (Value.int .i64 0).cells (grownCap W n 0 3-n)) 3)):=fun ty=>
    Lib.run_append_nil_zeros W 22 3 ty 3 i0 _ .i64 .i64 Tryz.underlying22 Tryz.underlying3 hi hz0 n h0 (by omega) (by omega) (by rw[hz2];omega)
   have hG:=grownCap_ge W n 0 3
   have hG2:=grownCap_le_maxLen W n 0 3 (by unfold maxLen;omega)
   generalize grownCap W n 0 3=G at*
   have hG3:G≤9223372036854775807:=by unfold maxLen at hG2;omega
   have HG:=Lib.hid (And.intro hG hG2)
   clear hG hG2 hi hz0 hz1 hz2
   go_enter Tryz.func185,Tryz.ntmps185
   go_wp2_with (at_builtin;refine Lib.wpList_append_run _ rfl _ _ _ _ rfl _ _ rfl rfl _ _ (hrun _) ?_)
   all_goals
    go_ret
    refine⟨_,_,rfl,⟨rfl,.inr ⟨W.heap.size,G,_,rfl,Nat.le_refl _,heap_alloc_new W.drew _,Nat.zero_le _,HG.out.2,?_,by simp⟩⟩,((Below.refl _ _).drew).alloc (Nat.le_refl _) _⟩
    have:=HG.out.1
    simp[Builtin.zeroCells,Value.cells]
    omega
def CcI (n:Nat) (es:List Int) (W:World) (e:Ending) (w':World):Prop:=∃a c,e=.returned (.slice a n c)∧w'.ownsRow W.heap.size 3 1 (.slice a n c) n (valsI es)∧Below W.heap.size W w'
theorem ConcatI_two {W:World} {g:Nat} {b1 b2:Option Addr} {m1 d1 m2 d2:Nat} {es fs:List Int} (hg:W.heap[g]?=some (.cells #[.slice b1 m1 d1,.slice b2 m2 d2] 22 (0,0))) (h1:Sl W b1 m1 es) (h2:Sl W b2 m2 fs) (hm1:m1≤5000) (hm2:m2≤5000):
 Calls Tryz.prog 152 #[.slice (some ⟨g,0,none⟩) 2 2] W (CcI (m1+m2) (es++fs) W):=by
 have hgl:g<W.heap.size:=(Array.getElem?_eq_some_iff.1 hg).1
 have c0:W.cell? ⟨g,0,none⟩=some (.slice b1 m1 d1):=by rw[cell_of_row _ _ _ _ _ _ hg];rfl
 have c1:W.cell? ⟨g,1,none⟩=some (.slice b2 m2 d2):=by rw[cell_of_row _ _ _ _ _ _ hg];rfl
 have H1:=Lib.hid h1
 have H2:=Lib.hid h2
 have C:=Lib.hid (And.intro c0 c1)
 have KG:=Lib.hid (fun n (hn:n≤1000000) w=>GrowI_nil n hn w)
 clear hg h1 h2
 go_enter Tryz.func152,Tryz.ntmps152
 go_wp2_with fail
 go_loop [3,11] (fun s i=>∃k:Nat,i=.int .i64 k∧k≤2∧s=.int .i64 (pick3 0 m1 (m1+m2) k:Nat)) (fun _ i=>2-(intOf i).toNat)
 case atStart=>exact⟨0,rfl,by omega,rfl⟩
 case round=>
  obtain⟨k,rfl,hk,rfl⟩:=hrel
  have hk3:k=0∨k=1∨k=2:=by omega
  rcases hk3 with rfl|rfl|rfl
  · have e3:¬((m1:Int)<0):=by omega
    simp only[pick3]
    go_wp2_with fail
    go_round
    case rel=>exact⟨1,rfl,by omega,by simp[pick3]⟩
    case measure=>simp[intOf]
  · have hw:IntKind.i64.wrap ((m1:Int)+(m2:Int))=((m1+m2:Nat):Int):=by rw[←Int.natCast_add];exact IntWalk.i64_in _ (by omega)
    have e3:¬(((m1+m2:Nat):Int)<0):=by omega
    simp only[pick3]
    go_wp2_with fail
    go_round
    case rel=>exact⟨2,rfl,by omega,by simp[pick3]⟩
    case measure=>simp[intOf]
  · simp only[pick3]
    go_wp2_with fail
    refine(KG.out (m1+m2) (by omega) _).mono ?_
    rintro e w ⟨ga,gc,rfl,ho,hb⟩
    have c0':=(hb.cell (p:=⟨g,0,none⟩) hgl).trans c0
    have c1':=(hb.cell (p:=⟨g,1,none⟩) hgl).trans c1
    clear c0 c1 KG
    go_wp2_with fail
    go_loopw [6,27] (fun ev i wr=>∃k:Nat,i=.int .i64 k∧k≤2∧wr.ownsRow W.heap.size 3 1 ev (pick3 0 m1 (m1+m2) k) (valsI (pick3 [] es (es++fs) k))∧Below W.heap.size W wr) (fun _ i _=>2-(intOf i).toNat)
    case atStart=>exact⟨0,rfl,by omega,ho,hb⟩
    case round=>
     obtain⟨k,rfl,hk,hown,hbq⟩:=hrel
     have hk3:k=0∨k=1∨k=2:=by omega
     rcases hk3 with rfl|rfl|rfl
     · have c0q:=(hbq.cell (p:=⟨g,0,none⟩) hgl).trans C.out.1
       have hr2:=Lib.hid (H1.out.below hbq).rd
       have ho2:=Lib.hid hown
       have hbs:=hbq.size
       clear hown
       go_wp2_with (at_builtin;refine wpList_append_rd rfl (.tmp 31) (.tmp 32) 22 rfl W.heap.size 3 (.int .i64 0) 8 Tryz.underlying22 infoInt1 rfl (by decide) _ 0 (valsI []) rfl ho2.out b1 m1 d1 (valsI es) rfl hr2.out (valsI_one _) (by omega) hbs ?_;intro av' cv' w3 hown3 hg3)
       have hb4:Below W.heap.size W w3:=hbq.trans (grown_below' hg3 (fun g' hg'=>(ho2.out.lt g' hg').1) hbs)
       rw[Nat.zero_add]at hown3
       clear hg3 ho2 hr2 c0q
       go_wp2_with fail
       go_roundw
       case rel=>exact⟨1,rfl,by omega,hown3,hb4⟩
       case measure=>simp[intOf]
     · have c1q:=(hbq.cell (p:=⟨g,1,none⟩) hgl).trans C.out.2
       have hr2:=Lib.hid (H2.out.below hbq).rd
       have ho2:=Lib.hid hown
       have hbs:=hbq.size
       clear hown
       go_wp2_with (at_builtin;refine wpList_append_rd rfl (.tmp 31) (.tmp 32) 22 rfl W.heap.size 3 (.int .i64 0) 8 Tryz.underlying22 infoInt1 rfl (by decide) _ m1 (valsI es) rfl ho2.out b2 m2 d2 (valsI fs) rfl hr2.out (valsI_one _) (by omega) hbs ?_;intro av' cv' w3 hown3 hg3)
       have hb4:Below W.heap.size W w3:=hbq.trans (grown_below' hg3 (fun g' hg'=>(ho2.out.lt g' hg').1) hbs)
       rw[valsI_add]at hown3
       clear hg3 ho2 hr2 c1q
       go_wp2_with fail
       go_roundw
       case rel=>exact⟨2,rfl,by omega,hown3,hb4⟩
       case measure=>simp[intOf]
     · obtain⟨ae,ce,rfl⟩:=own_form hown
       have HO:=Lib.hid (And.intro hown hbq)
       clear hown hbq
       go_wp2_with fail
       go_ret
       exact⟨_,_,rfl,HO.out.1,HO.out.2⟩
theorem run_cut2 {T e:TypeId} (ht:Tryz.prog.underlying T=some (.slice e)) (hs:∀w,(Go.sizeOf e).run Tryz.prog w=.ok 1 w) (a:Option Addr) (n c f t:Nat) (h1:f≤t) (h2:t≤c) (w:World):
 (Instr.slice T (.slice a n c) (some (.int .i64 (f:Int))) (some (.int .i64 (t:Int))) none).run Tryz.prog w=.ok (.slice (cutA a f c) (t-f) (c-f)) w:=by
 simp[Instr.slice,Instr.sliceBounds,Instr.sliceBound,run_underlying ht,hs,asIntOf,h1,h2,cutA]
theorem St.cut2 {W:World} {b:Option Addr} {m d f t:Nat} {es:List ByteArray} (h:St W b m es) (h1:f≤t) (h2:t≤m) (h3:m≤d):St W (cutA b f d) (t-f) ((es.drop f).take (t-f)):=by
 have k:=h.cut h1 h2
 by_cases e:t=f
 · exact⟨k.1,fun h0=>by omega⟩
 · have e2:cutA b f t=cutA b f d:=by unfold cutA;rw[if_neg e,if_neg (by omega)]
   rw[e2]at k;exact k
theorem itV_head {l:List Int} (h:l≠[]):itV l=l.getD 0 0:=by
 cases l with
 |nil=>exact absurd rfl h
 |cons x r=>rfl
theorem live_io {P:World→Prop} {w:World} {f:FuncId} {args:Array Value} {v:Int} {n:Nat} {l:List Int} (h:Lv P w) (hc:Calls Tryz.prog f args w (ItO v n l w)) (hs:Stb P:=by repeat' (first|exact Stb.bel _|exact Stb.bx|exact Stb.vl|exact Stb.sl|exact Stb.st|refine Stb.and ?_ ?_|exact Stb.triv)):
 Calls Tryz.prog f args w fun e w'=>∃a c,e=.returned (.tuple #[.int .i64 v,.slice a n c])∧Lv (fun z=>Sl z a n l∧P z) w':=
 hc.mono fun _ _ ⟨a,c,h1,h2,h3⟩=>⟨a,c,h1,⟨own_sl h2,hs _ _ h.out h3⟩⟩
theorem six_1 {a1 b1 a2 b2:Option Addr} {n1 c1 m1 d1 n2 c2 m2 d2:Nat} {l m:List Int} {es fs:List ByteArray} {W:World} (h1:Av W a1 n1 c1 b1 m1 d1 l es none):
 Calls Tryz.prog 106 #[.agg #[.slice a1 n1 c1,.slice b1 m1 d1],.agg #[.slice a2 n2 c2,.slice b2 m2 d2]] W (MEnd (none,1) W):=by
 have KV:=Lib.hid (fun w (hb:Below W.heap.size W w)=>VMay_av (h1.below hb))
 clear h1
 have h:=live2 W a1 n1 c1 b1 m1 d1 a2 n2 c2 b2 m2 d2
 go_enter Tryz.func106,Tryz.ntmps106
 have x1:=h.out.2.2.1.c0
 have y1:=h.out.2.2.1.c1
 go_wp2_with fail
 with_reducible refine(live h (KV.out _ h.out.2.2.2)).mono ?_
 clear h x1 y1
 rintro e w ⟨rfl,h⟩
 have y0:=h.out.1.c0
 have y3:=h.out.1.c1
 have f0:=h.out.1.f 0
 have f1:=h.out.1.f 1
 go_wp2_with fail
 have hR:=h.out.1.set none 0 0 none 0 0
 have r0:=hR.c0
 have r1:=hR.c1
 exact bodyPost_ret (v:=.tuple #[.agg #[.slice none 0 0,.slice none 0 0],.int .i64 1]) (by simp[results,Tryz.results106,go_sem,r0,r1]) rfl (mend_no h.out.1 h.out.2.2.2 (by omega))
theorem six_2 {a1 b1 a2 b2:Option Addr} {n1 c1 m1 d1 n2 c2 m2 d2:Nat} {l m:List Int} {es fs:List ByteArray} {W:World} {q:Ar} (h1:Av W a1 n1 c1 b1 m1 d1 l es (some q)) (h2:Av W a2 n2 c2 b2 m2 d2 m fs none):
 Calls Tryz.prog 106 #[.agg #[.slice a1 n1 c1,.slice b1 m1 d1],.agg #[.slice a2 n2 c2,.slice b2 m2 d2]] W (MEnd (none,1) W):=by
 have KV:=Lib.hid (fun w (hb:Below W.heap.size W w)=>VMay_av (h1.below hb))
 have KU:=Lib.hid (fun w (hb:Below W.heap.size W w)=>VMay_av (h2.below hb))
 clear h1 h2
 have h:=live2 W a1 n1 c1 b1 m1 d1 a2 n2 c2 b2 m2 d2
 go_enter Tryz.func106,Tryz.ntmps106
 have x1:=h.out.2.2.1.c0
 have y1:=h.out.2.2.1.c1
 go_wp2_with fail
 with_reducible refine(live h (KV.out _ h.out.2.2.2)).mono ?_
 clear h x1 y1
 rintro e w ⟨rfl,h⟩
 have x1:=h.out.2.1.c0
 have y1:=h.out.2.1.c1
 go_wp2_with fail
 with_reducible refine(live h (KU.out _ h.out.2.2.2)).mono ?_
 clear h x1 y1
 rintro e w ⟨rfl,h⟩
 have y0:=h.out.1.c0
 have y3:=h.out.1.c1
 have f0:=h.out.1.f 0
 have f1:=h.out.1.f 1
 go_wp2_with fail
 have hR:=h.out.1.set none 0 0 none 0 0
 have r0:=hR.c0
 have r1:=hR.c1
 exact bodyPost_ret (v:=.tuple #[.agg #[.slice none 0 0,.slice none 0 0],.int .i64 1]) (by simp[results,Tryz.results106,go_sem,r0,r1]) rfl (mend_no h.out.1 h.out.2.2.2 (by omega))
theorem six_3 {a1 b1 a2 b2:Option Addr} {n1 c1 m1 d1 n2 c2 m2 d2:Nat} {l m:List Int} {es fs:List ByteArray} {W:World} {q r:Ar} (h1:Av W a1 n1 c1 b1 m1 d1 l es (some q)) (h2:Av W a2 n2 c2 b2 m2 d2 m fs (some r)) (h0:n1=0):
 Calls Tryz.prog 106 #[.agg #[.slice a1 n1 c1,.slice b1 m1 d1],.agg #[.slice a2 n2 c2,.slice b2 m2 d2]] W (MEnd (none,3) W):=by
 have KV:=Lib.hid (fun w (hb:Below W.heap.size W w)=>VMay_av (h1.below hb))
 have KU:=Lib.hid (fun w (hb:Below W.heap.size W w)=>VMay_av (h2.below hb))
 have hn0:(n1:Int)=0:=by omega
 clear h1 h2 h0
 have h:=live2 W a1 n1 c1 b1 m1 d1 a2 n2 c2 b2 m2 d2
 go_enter Tryz.func106,Tryz.ntmps106
 have x1:=h.out.2.2.1.c0
 have y1:=h.out.2.2.1.c1
 go_wp2_with fail
 with_reducible refine(live h (KV.out _ h.out.2.2.2)).mono ?_
 clear h x1 y1
 rintro e w ⟨rfl,h⟩
 have x1:=h.out.2.1.c0
 have y1:=h.out.2.1.c1
 go_wp2_with fail
 with_reducible refine(live h (KU.out _ h.out.2.2.2)).mono ?_
 clear h x1 y1
 rintro e w ⟨rfl,h⟩
 have x1:=h.out.2.2.1.c0
 have y1:=h.out.2.2.1.c1
 have y0:=h.out.1.c0
 have y3:=h.out.1.c1
 have f0:=h.out.1.f 0
 have f1:=h.out.1.f 1
 go_wp2_with fail
 have hR:=h.out.1.set none 0 0 none 0 0
 have r0:=hR.c0
 have r1:=hR.c1
 exact bodyPost_ret (v:=.tuple #[.agg #[.slice none 0 0,.slice none 0 0],.int .i64 3]) (by simp[results,Tryz.results106,go_sem,r0,r1]) rfl (mend_no h.out.1 h.out.2.2.2 (by omega))
theorem six_4 {a1 b1 a2 b2:Option Addr} {n1 c1 m1 d1 n2 c2 m2 d2:Nat} {l m:List Int} {es fs:List ByteArray} {W:World} {q r:Ar} (h1:Av W a1 n1 c1 b1 m1 d1 l es (some q)) (h2:Av W a2 n2 c2 b2 m2 d2 m fs (some r)) (hW:WT W) (hn:0<n1) (h0:q.1≠[]) (hpl:plE r (q.1.getD 0 0)≠0):
 Calls Tryz.prog 106 #[.agg #[.slice a1 n1 c1,.slice b1 m1 d1],.agg #[.slice a2 n2 c2,.slice b2 m2 d2]] W (MEnd (ixK (some q) (some r)) W):=by
 have KV:=Lib.hid (fun w (hb:Below W.heap.size W w)=>VMay_av (h1.below hb))
 have KU:=Lib.hid (fun w (hb:Below W.heap.size W w)=>VMay_av (h2.below hb))
 have hn3:=h1.n3
 have hn4:=h2.n3
 have hm1:=h1.mlen.2.2
 have hm2:=h2.mlen.2.2
 have hmm:=h2.mlen.1
 have hmd:=h1.c.md
 have e3:=h1.i.2.1
 subst e3
 have hn0:(n1:Int)≠0:=by omega
 have e1:=h1.fst
 have e2:=h2.fst
 subst e1 e2
 obtain⟨M,hM⟩:∃M,M=q.1.getD 0 0:=⟨_,rfl⟩
 have KI:=Lib.hid (fun w (hb:Below W.heap.size W w)=>Items_o a1 n1 c1 q.1 w (h1.v.s.below hb) (by omega) h1.c.nc h1.c.cm)
 rw[itV_head h0,←hM]at KI
 have KP:=Lib.hid (fun w (hb:Below W.heap.size W w)=>SPlaces_is (c1:=c2) (d1:=d2) M (h2.below hb) (hW.below hb))
 rw[ix_4 (r:=r) h0 hpl,←hM]
 rw[←hM]at hpl
 obtain⟨k,hk⟩:∃k,k=plE r M:=⟨_,rfl⟩
 have hk0:(k != 0)=true:=by rw[hk];simpa using hpl
 have HK:=Lib.hid hk
 rw[←hk]
 clear h1 h2 h0 hM hpl hW hmm
 have h:=live2 W a1 n1 c1 b1 m1 d1 a2 n2 c2 b2 m2 d2
 go_enter Tryz.func106,Tryz.ntmps106
 have x1:=h.out.2.2.1.c0
 have y1:=h.out.2.2.1.c1
 go_wp2_with fail
 with_reducible refine(live h (KV.out _ h.out.2.2.2)).mono ?_
 clear h x1 y1
 rintro e w ⟨rfl,h⟩
 have x1:=h.out.2.1.c0
 have y1:=h.out.2.1.c1
 go_wp2_with fail
 with_reducible refine(live h (KU.out _ h.out.2.2.2)).mono ?_
 clear h x1 y1
 rintro e w ⟨rfl,h⟩
 have x1:=h.out.2.2.1.c0
 have y1:=h.out.2.2.1.c1
 go_wp2_with fail
 refine(live_io h (KI.out _ h.out.2.2.2)).mono ?_
 clear h x1 y1
 rintro e w ⟨ea,ec,rfl,h⟩
 have x2:=h.out.2.2.1.c0
 have y2:=h.out.2.2.1.c1
 go_wp2_with fail
 refine(live_pl h (KP.out _ h.out.2.2.2.2)).mono ?_
 clear h x2 y2
 rintro e w ⟨pa,pn,pc,rfl,hpp,h⟩
 rw[←HK.out]
 clear hpp hk
 have y0:=h.out.2.1.c0
 have y3:=h.out.2.1.c1
 have f0:=h.out.2.1.f 0
 have f1:=h.out.2.1.f 1
 go_wp2_with fail
 have hR:=h.out.2.1.set none 0 0 none 0 0
 have r0:=hR.c0
 have r1:=hR.c1
 exact bodyPost_ret (v:=.tuple #[.agg #[.slice none 0 0,.slice none 0 0],.int .i64 k]) (by simp[results,Tryz.results106,go_sem,r0,r1]) rfl (mend_no h.out.2.1 h.out.2.2.2.2 (by omega))
theorem six_5 {a1 b1 a2 b2:Option Addr} {n1 c1 m1 d1 n2 c2 m2 d2:Nat} {l m:List Int} {es fs:List ByteArray} {W:World} {q r:Ar} (h1:Av W a1 n1 c1 b1 m1 d1 l es (some q)) (h2:Av W a2 n2 c2 b2 m2 d2 m fs (some r)) (hW:WT W) (hn:0<n1) (h0:q.1≠[]) (hpl:plE r (q.1.getD 0 0)=0):
 Calls Tryz.prog 106 #[.agg #[.slice a1 n1 c1,.slice b1 m1 d1],.agg #[.slice a2 n2 c2,.slice b2 m2 d2]] W (MEnd (ixK (some q) (some r)) W):=by
 have KV:=Lib.hid (fun w (hb:Below W.heap.size W w)=>VMay_av (h1.below hb))
 have KU:=Lib.hid (fun w (hb:Below W.heap.size W w)=>VMay_av (h2.below hb))
 have hn3:=h1.n3
 have hn4:=h2.n3
 have hm1:=h1.mlen.2.2
 have hm2:=h2.mlen.2.2
 have hmm:=h2.mlen.1
 have hmd:=h1.c.md
 have e3:=h1.i.2.1
 subst e3
 have hn0:(n1:Int)≠0:=by omega
 have e1:=h1.fst
 have e2:=h2.fst
 subst e1 e2
 obtain⟨M,hM⟩:∃M,M=q.1.getD 0 0:=⟨_,rfl⟩
 have KI:=Lib.hid (fun w (hb:Below W.heap.size W w)=>Items_o a1 n1 c1 q.1 w (h1.v.s.below hb) (by omega) h1.c.nc h1.c.cm)
 rw[itV_head h0,←hM]at KI
 have KP:=Lib.hid (fun w (hb:Below W.heap.size W w)=>SPlaces_is (c1:=c2) (d1:=d2) M (h2.below hb) (hW.below hb))
 obtain⟨R,hR⟩:∃R,R=ixK (some q) (some r):=⟨_,rfl⟩
 rw[←hR]
 have hok:=plE_ok hpl
 have hin:=natL_lt (n:=nI q.1) (l:=r.2) (fun x hx=>by have:=hok.2 x hx;unfold nI;omega)
 have hit:=h1.items
 rw[mN_nI h0]at hit
 have hLn:(natL r.2).length=m2:=by rw[natL_len];exact hmm.symm
 have hes:(q.2.map S).length=nI q.1*kI q.1:=by rw[h1.v.t.1];exact hit.1
 have htl:∀j,j<q.1.tail.length→0≤q.1.tail.getD j 0:=fun j hj=>by
  have hmay:=szE_may.1 h1.i.rok.1
  have:=hmay.nn (j+1) (by rw[List.length_tail]at hj;omega)
  simpa[List.getD_eq_getElem?_getD,List.getElem?_tail]using this
 have htu:∀j,j<q.1.tail.length→q.1.tail.getD j 0≤1099511627776:=fun j hj=>by
  have hmay:=szE_may.1 h1.i.rok.1
  have:=hmay.le (j+1) (by rw[List.length_tail]at hj;omega)
  simpa[List.getD_eq_getElem?_getD,List.getElem?_tail]using this
 have hkp:((kI q.1:Nat):Int)=pr q.1.tail:=Int.toNat_of_nonneg (pr_nonneg htl)
 have HZ:=Lib.hid (fun h=>hR.trans (ix_5 h0 hpl h))
 have HY:=Lib.hid (fun h=>And.intro (hR.trans (ix_6 h0 hpl h)) (And.intro (ix_rok h1.i.rok h1.fits h0 h2.i.rok h hin (pr_nonneg htl)) (show m2*kI q.1≤4096 from by
  have hpp:=(szE_may.1 h).pr
  rw[pr_append,←h2.i.rok.2.1,←hmm,←hkp]at hpp
  exact_mod_cast hpp)))
 have HS:=Lib.hid (fun j (hj:j<m2)=>And.intro (its_snoc (q.2.map S) (kI q.1) (L:=natL r.2) (j:=j) (by omega)) (And.intro (its_length hes (l:=(natL r.2).take j) (fun i hi=>hin i (List.mem_of_mem_take hi))) (part_length (es:=q.2.map S) (k:=kI q.1) (i:=(natL r.2).getD j 0) (by
  rw[hes]
  refine Nat.mul_le_mul_right _ ?_
  rw[List.getD_eq_getElem?_getD,List.getElem?_eq_getElem (by omega)]
  exact hin _ (List.getElem_mem _)))))
 have HIN:=Lib.hid (fun j (hj:j<m2)=>(show((natL r.2).getD j 0+1)*kI q.1≤m1 from by
  have h5:(natL r.2).getD j 0<nI q.1:=by
   rw[List.getD_eq_getElem?_getD,List.getElem?_eq_getElem (by omega)]
   exact hin _ (List.getElem_mem _)
  rw[hit.1]
  exact Nat.mul_le_mul_right _ h5))
 have HAT:=Lib.hid (fun j (hj:j<m2)=>natL_at (l:=r.2) (fun x hx=>(hok.2 x hx).1) (k:=j) (by omega))
 have HEV:=Lib.hid (fun(hm:0<m2)=>(show szV q.1.tail=((kI q.1:Nat):Int)from by
  have h5:0<nI q.1:=by
   have:=hin (natL r.2)[0] (List.getElem_mem (by omega))
   omega
  have h6:kI q.1≤m1:=by
   rw[hit.1];exact Nat.le_mul_of_pos_left _ h5
  have hz:szE q.1.tail=0:=szE_may.2 ⟨by have:=h1.v.s.1;rw[List.length_tail];omega,htl,htu,by rw[←hkp];omega⟩
  rw[szV_pr hz,hkp]))
 have HNR:=Lib.hid (fun j (hj:j<m2)=>(nearM_yes.1 (near_all.1 hok.1 j (by omega))).2)
 have HTL:=Lib.hid (its_length (es:=q.2.map S) (n:=nI q.1) (k:=kI q.1) hes (l:=natL r.2) hin)
 have HSV:=Lib.hid h1.v.t
 have HSW:=Lib.hid h2.v.s
 have KZ:=Lib.hid (fun w a n c (hs:Sl w a n (r.1++q.1.tail))=>Size_is a n c (r.1++q.1.tail) w hs)
 have KY:=Lib.hid (fun w a n c (hs:Sl w a n q.1.tail)=>Size_is a n c q.1.tail w hs)
 unfold SizeIs at KZ KY
 have HLN:=Lib.hid hLn
 have HM2:=Lib.hid hmm.symm
 have HMAP:=Lib.hid (its_map q.2 (kI q.1) (natL r.2))
 have hPL:plE r M=0:=by rw[hM];exact hpl
 have HPL:=Lib.hid hPL
 obtain⟨TL,hTLe⟩:∃TL,TL=q.1.tail:=⟨_,rfl⟩
 rw[←hTLe]at HY HZ HEV KZ KY KI
 clear h1 h2 h0 hM hpl hR hok hin hit hes hLn hmm htl htu hkp hPL hTLe hW
 generalize kI q.1=K at*
 generalize nI q.1=NI at*
 have h:=live2 W a1 n1 c1 b1 m1 d1 a2 n2 c2 b2 m2 d2
 go_enter Tryz.func106,Tryz.ntmps106
 have x1:=h.out.2.2.1.c0
 have y1:=h.out.2.2.1.c1
 go_wp2_with fail
 with_reducible refine(live h (KV.out _ h.out.2.2.2)).mono ?_
 clear h x1 y1
 rintro e w ⟨rfl,h⟩
 have x1:=h.out.2.1.c0
 have y1:=h.out.2.1.c1
 go_wp2_with fail
 with_reducible refine(live h (KU.out _ h.out.2.2.2)).mono ?_
 clear h x1 y1
 rintro e w ⟨rfl,h⟩
 have x1:=h.out.2.2.1.c0
 have y1:=h.out.2.2.1.c1
 go_wp2_with fail
 refine(live_io h (KI.out _ h.out.2.2.2)).mono ?_
 clear h x1 y1
 rintro e w ⟨ea,ec,rfl,h⟩
 have x2:=h.out.2.2.1.c0
 have y2:=h.out.2.2.1.c1
 go_wp2_with fail
 refine(live_pl h (KP.out _ h.out.2.2.2.2)).mono ?_
 clear h x2 y2
 rintro e w ⟨pa,pn,pc,rfl,hpp,h⟩
 obtain⟨hpn,hps,_,_⟩:=hpp HPL.out
 rw[HM2.out]at hpn
 subst hpn
 rw[HPL.out]
 have HPS:=Lib.hid hps
 clear hpp hps
 have x2:=h.out.2.2.1.c0
 have y2:=h.out.2.2.1.c1
 have hbA:=(Below.refl w.heap.size w).alloc (Nat.le_refl _) (.cells #[.slice a2 n2 c2,.slice ea (n1-1) ec] 22)
 have KC:=Lib.hid (ConcatI_two (heap_alloc_new w (.cells #[.slice a2 n2 c2,.slice ea (n1-1) ec] 22)) ((HSW.out.below h.out.2.2.2.2).below hbA) (h.out.1.below hbA) (by omega) (by omega))
 have HBA:=Lib.hid hbA
 clear hbA
 go_wp2_with fail
 refine KC.out.mono ?_
 rintro e w5 ⟨ca,cc,rfl,hoc,hb5⟩
 have hb6:=HBA.out.trans (hb5.mono HBA.out.size)
 have HP5:=Lib.hid (HPS.out.below hb6)
 replace h:=live_to h hb6 (by repeat' (first|exact Stb.bel _|exact Stb.bx|exact Stb.sl|refine Stb.and ?_ ?_))
 have HOC:=Lib.hid (And.intro (own_sl hoc) (own_caps hoc))
 clear hoc hb5 hb6 x2 y2 KC HPS HBA
 obtain⟨N,hN⟩:∃N,N=n2+(n1-1):=⟨_,rfl⟩
 rw[←hN]at HOC
 rw[←hN]
 clear hN
 have KZ2:=Lib.hid (KZ.out w5 ca N cc HOC.out.1)
 clear KZ
 obtain⟨SH,hSH⟩:∃SH,SH=r.1++TL:=⟨_,rfl⟩
 rw[←hSH]at KZ2 HY HZ HOC
 clear hSH
 obtain⟨E,hE⟩:∃E,E=szE SH:=⟨_,rfl⟩
 rw[←hE]at KZ2 HY HZ
 clear hE
 go_wp2_with fail
 refine KZ2.out.mono ?_
 rintro e w6 ⟨rfl,rfl⟩
 by_cases hE0:E=0
 · obtain⟨HRR,HRK,hK4⟩:=HY.out hE0
   replace HRR:=Lib.hid HRR
   replace HRK:=Lib.hid HRK
   subst hE0
   clear HZ HY KZ2
   have KY2:=Lib.hid (KY.out _ ea (n1-1) ec h.out.1)
   clear KY
   obtain⟨V,hV⟩:∃V,V=szV TL:=⟨_,rfl⟩
   rw[←hV]at HEV KY2
   clear hV
   go_wp2_with fail
   refine KY2.out.mono ?_
   rintro e w6 ⟨rfl,rfl⟩
   have HLV:=Lib.hid h
   obtain⟨B,hB⟩:∃B,B=w5.heap.size:=⟨_,rfl⟩
   clear h KY2
   go_wp2_with fail
   go_loopw [15,69] (fun ov iv wr=>∃(k s:Nat) (av:Option Addr) (cv:Nat),ov=.slice av s cv∧iv=.int .i64 (k:Int)∧k≤pn∧Hid (s=(its (q.2.map S) K ((natL r.2).take k)).length)∧Hid (wr.ownsRow B 9 1 (.slice av s cv) s (valsS (its (q.2.map S) K ((natL r.2).take k))))∧Below B w5 wr) (fun _ iv _=>pn-(intOf iv).toNat)
   case atStart=>exact⟨0,0,none,0,rfl,rfl,Nat.zero_le _,Lib.hid rfl,Lib.hid (World.ownsRow_nil _ _ _ _),by rw[hB];exact Below.refl _ _⟩
   case round=>
    obtain⟨k,s,av,cv,rfl,rfl,hk,HSS,HO,hb⟩:=hrel
    have h:=live_belS HLV.out hb (by rw[hB];exact Nat.le_refl _) (by repeat' (first|exact Stb.bel _|exact Stb.bx|exact Stb.sl|refine Stb.and ?_ ?_))
    have hBz:B≤wr.heap.size:=by rw[hB];exact hb.size
    by_cases hlt:k<pn
    · have e2:(k:Int)<(pn:Int):=by omega
      obtain⟨bl,ol,hpe,hcl⟩:=HP5.out.2 (by omega)
      subst hpe
      have hck:=(hb.cell (p:=⟨bl,ol+k,none⟩) (by rw[hB];exact World.block_lt_of_cell? _ _ (hcl k hlt))).trans (hcl k hlt)
      obtain⟨hst,hp1,hp2⟩:=HS.out k hlt
      have hi0:=HIN.out k hlt
      rw[←HAT.out k hlt]at hck
      rw[List.length_take,HLN.out,Nat.min_eq_left (Nat.le_of_lt hlt)]at hp1
      have hV:=HEV.out (by omega)
      have y1:=h.out.2.2.2.1.c1
      have hstv:=HSV.out.below h.out.2.2.2.2
      obtain⟨i0,hi⟩:∃i0,i0=(natL r.2).getD k 0:=⟨_,rfl⟩
      rw[←hi]at hck hst hp2 hi0
      obtain⟨F,hF⟩:∃F,F=i0*K:=⟨_,rfl⟩
      obtain⟨T,hT⟩:∃T,T=F+K:=⟨_,rfl⟩
      have hTT:(i0+1)*K=T:=by rw[hT,hF,Nat.succ_mul]
      rw[hTT]at hi0
      have h41:s+K≤4096:=by
       have h5:(k+1)*K≤pn*K:=Nat.mul_le_mul_right _ hlt
       rw[HSS.out,hp1,←Nat.succ_mul];exact Nat.le_trans h5 hK4
      have hw1:IntKind.i64.wrap ((i0:Int)*V)=(F:Int):=by rw[hV,hF,Int.natCast_mul];exact IntWalk.i64_in _ (by rw[←Int.natCast_mul,←hF];omega)
      have hw2:IntKind.i64.wrap ((i0:Int)+1)=(i0:Int)+1:=IntWalk.i64_in _ (by
       rcases Nat.eq_zero_or_pos K with h6|h6
       · have:=HAT.out k hlt
         have h7:=HNR.out k hlt
         omega
       · have:i0≤i0*K:=Nat.le_mul_of_pos_right _ h6
         omega)
      have hw3:IntKind.i64.wrap (((i0:Int)+1)*V)=(T:Int):=by rw[hV,show(i0:Int)+1=((i0+1:Nat):Int)by omega,←Int.natCast_mul,hTT];exact IntWalk.i64_in _ (by omega)
      have hsl:=run_cut2 Tryz.underlying23 sizeStr b1 m1 d1 F T (by omega) (by omega)
      rw[show T-F=K by omega]at hsl
      have hrd:=(hstv.cut2 (f:=F) (t:=T) (d:=d1) (by omega) hi0 hmd).rd
      rw[show T-F=K by omega]at hrd
      have hpart:((q.2.map S).drop F).take K=part (q.2.map S) K i0:=by rw[hF];rfl
      rw[hpart]at hrd
      obtain⟨X,hX⟩:∃X,X=part (q.2.map S) K i0:=⟨_,rfl⟩
      rw[←hX]at hst hp2 hrd
      have HRD:=Lib.hid hrd
      have HST:=Lib.hid hst
      have HP2:=Lib.hid hp2
      have HBB:=Lib.hid hb
      obtain⟨u,hu⟩:∃u:Int,u=(i0:Int):=⟨_,rfl⟩
      rw[←hu]at hck hw1 hw2 hw3
      clear hcl hst hp1 hp2 hi0 hV hstv hT hTT hF hpart hX hrd hb h hi hu
      go_wp2_with (at_builtin;refine wpList_append_rd rfl (.tmp 73) (.tmp 83) 23 rfl B 9 (.string ⟨#[]⟩) 16 Tryz.underlying23 infoStr rfl (by decide) _ s _ rfl HO.out (cutA b1 F d1) K (d1-F) (valsS X) rfl HRD.out (valsS_one _) (by omega) hBz ?_;intro av' cv' w9 hown9 hg9)
      have hb9:Below B w5 w9:=HBB.out.trans (grown_below' hg9 (fun g' hg'=>(HO.out.lt g' hg').1) hBz)
      rw[valsS_add,←HST.out]at hown9
      have HO9:=Lib.hid hown9
      clear hg9 hown9
      go_wp2_with fail
      go_roundw
      case rel=>exact⟨k+1,s+K,av',cv',rfl,by go_num,by omega,Lib.hid (by rw[HST.out,List.length_append,HP2.out,←HSS.out]),HO9,hb9⟩
      case measure=>simp[intOf];omega
    · have e2:¬(k:Int)<(pn:Int):=by omega
      obtain rfl:k=pn:=by omega
      rw[List.take_of_length_le (by rw[HLN.out];exact Nat.le_refl _)]at HSS HO
      have ho:=HO.out
      rw[HMAP.out]at ho
      have hsz:=HSS.out
      rw[HMAP.out,List.length_map]at hsz
      have hst:=Lib.hid (own_st ho)
      have hcp2:=Lib.hid (own_caps ho)
      have HSL:=Lib.hid ((HOC.out.1.below (by rw[←hB];exact hb):Sl wr ca N SH))
      have hV:Hid (Vl wr ca N av s (TS (some (SH,its q.2 K (natL r.2)))).1 (TS (some (SH,its q.2 K (natL r.2)))).2):=Lib.hid ⟨HSL.out,hst.out,by
       have h9:=HRK.out.2.1
       have h8:=(szE_may.1 HRK.out.1).pr
       have h7:(((its q.2 K (natL r.2)).length:Nat):Int)≤4096:=by
        refine Int.le_trans (Int.le_of_eq h9) ?_
        exact h8
       omega⟩
      clear ho hb hsz HO HSS
      have y0:=h.out.2.1.c0
      have y3:=h.out.2.1.c1
      have f0:=h.out.2.1.f 0
      have f1:=h.out.2.1.f 1
      go_wp2_with fail
      have hR:=h.out.2.1.set ca N cc av s cv
      have r0:=hR.c0
      have r1:=hR.c1
      exact bodyPost_ret (v:=.tuple #[.agg #[.slice ca N cc,.slice av s cv],.int .i64 0]) (by simp[results,Tryz.results106,go_sem,r0,r1]) rfl (by
       rw[HRR.out]
       exact mend_box (r:=(some (SH,its q.2 K (natL r.2)),0)) h.out.2.1 h.out.2.2.2.2 (by omega) hV.out ⟨HOC.out.2.1,HOC.out.2.2,hcp2.out.1,hcp2.out.2⟩ HRK.out)
 · have HG:=Lib.hid (HZ.out hE0)
   have hk:(E != 0)=true:=by simpa using hE0
   clear HY HZ KZ2 KY
   have y0:=h.out.2.1.c0
   have y3:=h.out.2.1.c1
   have f0:=h.out.2.1.f 0
   have f1:=h.out.2.1.f 1
   go_wp2_with fail
   have hR:=h.out.2.1.set none 0 0 none 0 0
   have r0:=hR.c0
   have r1:=hR.c1
   exact bodyPost_ret (v:=.tuple #[.agg #[.slice none 0 0,.slice none 0 0],.int .i64 E]) (by simp[results,Tryz.results106,go_sem,r0,r1]) rfl (by rw[HG.out];exact mend_no h.out.2.1 h.out.2.2.2.2 (by omega))
theorem SIndex_is {a1 b1 a2 b2:Option Addr} {n1 c1 m1 d1 n2 c2 m2 d2:Nat} {l m:List Int} {es fs:List ByteArray} {W:World} {o p:Option Ar} (h1:Av W a1 n1 c1 b1 m1 d1 l es o) (h2:Av W a2 n2 c2 b2 m2 d2 m fs p) (hW:WT W):Calls Tryz.prog 106 #[.agg #[.slice a1 n1 c1,.slice b1 m1 d1],.agg #[.slice a2 n2 c2,.slice b2 m2 d2]] W (MEnd (ixK o p) W):=by
 cases o with
 |none=>rw[ix_1];exact six_1 (m:=m) (fs:=fs) h1
 |some q=>
 cases p with
 |none=>rw[ix_2];exact six_2 h1 h2
 |some r=>
  have hl:=h1.v.s.1
  by_cases h0:q.1=[]
  · rw[ix_3 r h0];exact six_3 h1 h2 (by rw[←hl,←h1.fst,h0];rfl)
  · have hn:0<n1:=by
     rw[←hl,←h1.fst]
     exact List.length_pos_iff.2 h0
    by_cases hp:plE r (q.1.getD 0 0)=0
    · exact six_5 h1 h2 hW hn h0 hp
    · exact six_4 h1 h2 hW hn h0 hp
end Go.Proofs.YtbijncndjlmmdaaGreatDoor
namespace Go.Proofs.YtbijncndjlmmdaaGreatDoor
set_option linter.unusedVariables false
set_option linter.unusedSimpArgs false
open Go.RowKit
end Go.Proofs.YtbijncndjlmmdaaGreatDoor
namespace Go.Proofs.YtbijncndjlmmdaaGreatDoor
set_option linter.unusedVariables false
set_option linter.unusedSimpArgs false
open Go.RowKit
end Go.Proofs.YtbijncndjlmmdaaGreatDoor
namespace Go.Proofs.YtbijncndjlmmdaaGreatDoor
set_option linter.unusedVariables false
set_option linter.unusedSimpArgs false
open Go.RowKit
end Go.Proofs.YtbijncndjlmmdaaGreatDoor
namespace Go.Proofs.YtbijncndjlmmdaaGreatDoor
set_option linter.unusedVariables false
set_option linter.unusedSimpArgs false
end Go.Proofs.YtbijncndjlmmdaaGreatDoor

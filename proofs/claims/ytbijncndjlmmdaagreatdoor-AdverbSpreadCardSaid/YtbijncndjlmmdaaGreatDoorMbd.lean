import Derived.Test.YtbijncndjlmmdaaGreatDoorMax
import Derived.Lib.AppendZeros
import Derived.Laws.IdiomCopy
set_option maxHeartbeats 3200000
set_option maxRecDepth 100000
namespace Go.Proofs.YtbijncndjlmmdaaGreatDoor
set_option linter.unusedVariables false
set_option linter.unusedSimpArgs false
open Go.RowKit
theorem bel_setCells {B b:Nat} {a:World} (hb:B≤b):∀(vs:List Value) (o:Nat) (w:World),Below B a w→Below B a (w.setCells b o vs)
 |[],_,_,h=>h
 |v::r,o,w,h=>by
  rw[World.setCells]
  exact bel_setCells hb r (o+1) _ (h.setCell (p:=⟨b,o,none⟩) hb v)
def InsP (B n:Nat) (x:Int) (l:List Int) (W:World) (e:Ending) (w':World):Prop:=
 ∃a c,e=.returned (.slice a (n+1) c)∧Sl w' a (n+1) (x::l)∧n+1≤c∧c≤maxLen∧Below B W w'
theorem sl_cells {w:World} {g n:Nat} {x:Int} {l:List Int} (hl:l.length=n) (h0:w.cell? ⟨g,0,none⟩=some (.int .i64 x)) (h1:∀j,j<n→w.cell? ⟨g,j+1,none⟩=some (.int .i64 (l.getD j 0))):Sl w (some ⟨g,0,none⟩) (n+1) (x::l):=by
 refine⟨by simp[hl],fun _=>⟨g,0,rfl,fun j hj=> ?_⟩⟩
 rw[Nat.zero_add]
 cases j with
 |zero=>exact h0
 |succ j=>exact h1 j (by omega)
theorem Insert_o {W:World} {B g n c:Nat} {a:Option Addr} {l:List Int} {x:Int} (h:W.ownsRow B 3 1 (.slice a n c) n (valsI l)) (hn:n≤20) (hg:W.heap[g]?=some (.cells #[.int .i64 x] 3 (0,0))) (hBg:∀b,(Value.slice a n c).ownBlock=some b→b≠g) (hB:B≤W.heap.size):
 Calls Tryz.prog 147 #[.slice a n c,.int .i64 0,.slice (some ⟨g,0,none⟩) 1 1] W (InsP B n x l W):=by
 have hl:l.length=n:=by have:=h.1;simpa[valsI]using this
 have hx:∀j v,([.int .i64 x]:List Value)[j]?=some v→W.cell? ⟨g,0+j,none⟩=some v:=by
  intro j v hv
  rw[Nat.zero_add,cell_of_row _ _ _ _ _ _ hg]
  cases j with
  |zero=>simpa using hv
  |succ j=>simp at hv
 have h1x:∀v∈([.int .i64 x]:List Value),v.oneCell'=true:=by intro v hv;rw[List.mem_singleton]at hv;rw[hv];rfl
 have hcs:∀{w:World} {b:Nat} {cur:Array Value} {fr:Nat×Nat},w.heap[b]?=some (.cells cur 3 fr)→cur.toList.take (n*1)=valsI l→∀j v,(valsI l)[j]?=some v→w.cell? ⟨b,0+j,none⟩=some v:=by
  intro w b cur fr hb ht j v hv
  have hj:j<n:=by have:=(List.getElem?_eq_some_iff.1 hv).1;simpa[valsI,hl]using this
  rw[Nat.zero_add,cell_of_row _ _ _ _ _ _ hb,←hv,←ht,List.getElem?_take_of_lt (by omega),Array.getElem?_toList]
 have hget:∀j,j<n→(valsI l)[j]?=some (.int .i64 (l.getD j 0)):=fun j hj=>by
  simp[valsI,List.getD_eq_getElem?_getD,List.getElem?_eq_getElem (show j<l.length by omega)]
 rcases Nat.eq_zero_or_pos n with h0|h0
 · subst h0
   obtain rfl:=List.length_eq_zero_iff.1 hl
   rcases h.2 with⟨e,_⟩|⟨b,cap,cur,e,hBb,hb,h1,h2,h3,h4⟩
   · injection e with e1 e2 e3
     subst e1 e3
     refine(Tryz.slices_Insert_int_end_grow none 0 0 g 0 1 1 [] [.int .i64 x] W (by omega) (Nat.le_refl _) (by omega) (by omega) rfl rfl (fun _=>rfl) (fun a ha=>by cases ha) hx h1x).mono ?_
     rintro e w ⟨rfl,rfl⟩
     refine⟨_,_,rfl,sl_cells rfl ?_ (fun j hj=>by omega),grownCap_ge W _ _ _,grownCap_le_maxLen W _ _ _ (by unfold maxLen;omega),(Below.refl _ _).drew.alloc hB _⟩
     exact(cell_of_row _ _ _ _ _ _ (show(W.drew.alloc _).heap[W.heap.size]?=some _ from heap_alloc_new W.drew _)).trans (by rw[List.nil_append,Array.getElem?_append_left (by simp)];rfl)
   · injection e with e1 e2 e3
     subst e1 e3
     by_cases hr:1≤c
     · refine(Tryz.slices_Insert_int_end_room b 0 0 c g 0 1 1 [.int .i64 x] W (by omega) (by omega) (by have:=h2;unfold maxLen at this;omega) rfl ?_ ?_ hx h1x).mono ?_
       · intro j hj
         rw[cell_of_row _ _ _ _ _ _ hb,Array.getElem?_eq_getElem (by omega)];rfl
       · intro j hj
         exact frozen_of_row _ _ _ _ _ hb
       · rintro e w ⟨rfl,rfl⟩
         refine⟨_,_,rfl,sl_cells rfl ?_ (fun j hj=>by omega),by omega,h2,bel_setCells hBb _ _ _ (Below.refl _ _)⟩
         have:=World.cell?_setCells_in b [.int .i64 x] (0+0) W (fun j hj=>by
          rw[cell_of_row _ _ _ _ _ _ hb,Array.getElem?_eq_getElem (by simp at hj;omega)];rfl) 0 (by simp)
         exact this
     · obtain rfl:c=0:=by omega
       refine(Tryz.slices_Insert_int_end_grow (some ⟨b,0,none⟩) 0 0 g 0 1 1 [] [.int .i64 x] W (by omega) (Nat.le_refl _) (by omega) (by omega) rfl rfl (fun hh=>by cases hh) (fun a ha j v hv=>by simp at hv) hx h1x).mono ?_
       rintro e w ⟨rfl,rfl⟩
       refine⟨_,_,rfl,sl_cells rfl ?_ (fun j hj=>by omega),grownCap_ge W _ _ _,grownCap_le_maxLen W _ _ _ (by unfold maxLen;omega),(Below.refl _ _).drew.alloc hB _⟩
       exact(cell_of_row _ _ _ _ _ _ (show(W.drew.alloc _).heap[W.heap.size]?=some _ from heap_alloc_new W.drew _)).trans (by rw[List.nil_append,Array.getElem?_append_left (by simp)];rfl)
 · rcases h.2 with⟨_,e⟩|⟨b,cap,cur,e,hBb,hb,h1,h2,h3,h4⟩
   · omega
   injection e with e1 e2 e3
   subst e1 e3
   have hbg:b≠g:=hBg b rfl
   have hvl:(valsI l).length=n:=by simp[valsI,hl]
   by_cases hr:n+1≤c
   · refine(Tryz.slices_Insert_int_shift b 0 n c 0 g 0 1 1 (valsI l) [.int .i64 x] W h0 (by omega) hr (by have:=h2;unfold maxLen at this;omega) (fun e=>hbg e.symm) hvl rfl (hcs hb h4) ?_ ?_ hx (valsI_one l) h1x 3 3 1 cur.size ?_ ?_ (by omega) ?_ ?_).mono ?_
     · intro j hj
       rw[cell_of_row _ _ _ _ _ _ hb,Array.getElem?_eq_getElem (by omega)];rfl
     · intro j hj
       exact frozen_of_row _ _ _ _ _ hb
     · unfold World.shape?;rw[hg];rfl
     · unfold World.shape?;rw[hb]
     · exact frozen_of_row _ _ _ _ _ hg
     · exact frozen_of_row _ _ _ _ _ hg
     · rintro e w ⟨rfl,rfl⟩
       have hin:∀j,j<(valsI l).length→(W.drew.cell? ⟨b,(0+(0+1))+j,none⟩).isSome=true:=fun j hj=>by
        show(W.cell? _).isSome=true
        rw[cell_of_row _ _ _ _ _ _ hb,Array.getElem?_eq_getElem (by rw[hvl]at hj;omega)]
        rfl
       have h0s:((W.drew.setCells b (0+(0+1)) (valsI l)).cell? ⟨b,0,none⟩).isSome=true:=by
        rw[World.cell?_setCells_out b _ _ _ _ (fun _ _=>.inl (by show 0<0+(0+1);omega))]
        show(W.cell? _).isSome=true
        rw[cell_of_row _ _ _ _ _ _ hb,Array.getElem?_eq_getElem (by omega)];rfl
       refine⟨_,_,rfl,sl_cells hl ?_ (fun j hj=> ?_),hr,h2,bel_setCells hBb _ _ _ (bel_setCells hBb _ _ _ (Below.refl _ _).drew)⟩
       · exact World.cell?_setCells_in b [.int .i64 x] 0 (W.drew.setCells b (0+(0+1)) (valsI l)) (fun j hj=>by
          obtain rfl:j=0:=by simpa using hj
          exact h0s) 0 (by simp)
       · rw[List.drop_zero,World.cell?_setCells_out b _ _ _ _ (fun _ _=>.inr (by show 0+0+1≤j+1;omega))]
         have:=World.cell?_setCells_in b (valsI l) (0+(0+1)) W.drew hin j (by rw[hvl];exact hj)
         rw[show(0+(0+1))+j=j+1 by omega]at this
         rw[this,←List.getElem?_eq_getElem,hget j hj]
   · refine(Tryz.slices_Insert_int_grow b 0 n c 0 g 0 1 1 (valsI l) [.int .i64 x] W h0 (by omega) h1 (by omega) (by omega) hvl rfl (hcs hb h4) hx (valsI_one l) h1x).mono ?_
     rintro e w ⟨rfl,rfl⟩
     have hG:=grownCap_ge W (n+1) c 3
     have hG2:=grownCap_le_maxLen W (n+1) c 3 (by unfold maxLen;omega)
     generalize grownCap W (n+1) c 3=G at*
     obtain⟨row,hrow⟩:∃row:Array Value,row=((valsI l).take 0).toArray++Builtin.zeroCells (Value.int .i64 0).cells (n+1-0)++Builtin.zeroCells (Value.int .i64 0).cells (G-(n+1)):=⟨_,rfl⟩
     have hrs:n+1≤row.size:=by rw[hrow];simp[Builtin.zeroCells,Value.cells]
     rw[←hrow]
     have hN:∀j,j<n+1→((W.alloc (.cells row 3)).drew.cell? ⟨W.heap.size,j,none⟩).isSome=true:=fun j hj=>by
      show((W.alloc (.cells row 3)).cell? _).isSome=true
      rw[cell_of_row _ _ _ _ _ _ (heap_alloc_new W _),Array.getElem?_eq_getElem (by omega)]
      rfl
     obtain⟨w1,hw1⟩:∃w1,w1=(W.alloc (.cells row 3)).drew:=⟨_,rfl⟩
     have hb1:Below W.heap.size W w1:=by rw[hw1];exact((Below.refl _ _).alloc (Nat.le_refl _) _).drew
     rw[←hw1]at hN ⊢
     have h2s:∀j,1≤j→j<n+1→((w1.setCells W.heap.size 0 [.int .i64 x]).drew.cell? ⟨W.heap.size,j,none⟩).isSome=true:=fun j hj1 hj2=>by
      show((w1.setCells W.heap.size 0 [.int .i64 x]).cell? _).isSome=true
      rw[World.cell?_setCells_out W.heap.size _ _ _ _ (fun _ _=>.inr (by show 0+1≤j;omega))]
      exact hN j hj2
     refine⟨_,_,rfl,sl_cells hl ?_ (fun j hj=> ?_),hG,hG2,?_⟩
     · rw[World.cell?_setCells_out W.heap.size _ _ _ _ (fun _ _=>.inl (by show 0<0+1;omega))]
       show(w1.setCells W.heap.size 0 [.int .i64 x]).cell? _=_
       exact World.cell?_setCells_in W.heap.size [.int .i64 x] 0 w1 (fun j hj=>by
        obtain rfl:j=0:=by simpa using hj
        exact hN 0 (by omega)) 0 (by simp)
     · rw[List.drop_zero]
       have:=World.cell?_setCells_in W.heap.size (valsI l) (0+1) (w1.setCells W.heap.size 0 [.int .i64 x]).drew (fun j hj=>by rw[hvl]at hj;exact h2s (0+1+j) (by omega) (by omega)) j (by rw[hvl];exact hj)
       rw[show 0+1+j=j+1 by omega]at this
       rw[this,←List.getElem?_eq_getElem,hget j hj]
     · exact bel_setCells hB _ _ _ (bel_setCells hB _ _ _ (hb1.mono hB)).drew
def GrP (W:World) (e:Ending) (w':World):Prop:=∃a c,e=.returned (.slice a 0 c)∧w'.ownsRow W.heap.size 9 1 (.slice a 0 c) 0 []∧Below W.heap.size W w'
theorem Grow_nil (n:Nat) (hn:n≤1000000) (W:World):Calls Tryz.prog 184 #[.slice none 0 0,.int .i64 n] W (GrP W):=by
 have h1:¬((n:Int)<0):=by omega
 have hw0:IntKind.i64.wrap (n:Int)=(n:Int):=IntWalk.i64_in _ (by omega)
 rcases Nat.eq_zero_or_pos n with h0|h0
 · subst h0
   go_enter Tryz.func184,Tryz.ntmps184
   go_wp2_with fail
   go_ret
   exact⟨none,0,rfl,World.ownsRow_nil _ _ _ _,Below.refl _ _⟩
 · have h2:(0:Int)<(n:Int):=by omega
   obtain⟨i0,hi,hz0,hz1,hz2⟩:=info_parts infoStr
   have hrun:∀ty,(Builtin.append_ #[23,3] ty #[.slice none 0 0,.int .i64 n]).run Tryz.prog W=.ok (.slice (some ⟨W.heap.size,0,none⟩) n (grownCap W n 0 9)) (W.drew.alloc (.cells (Builtin.zeroCells (Value.string ⟨#[]⟩).cells n++Builtin.zeroCells (Value.string ⟨#[]⟩).cells (grownCap W n 0 9-n)) 9)):=fun ty=>
    Lib.run_append_nil_zeros W 23 3 ty 9 i0 _ .i64 .i64 Tryz.underlying23 Tryz.underlying3 hi hz0 n h0 (by omega) (by omega) (by rw[hz2];omega)
   have hG:=grownCap_ge W n 0 9
   have hG2:=grownCap_le_maxLen W n 0 9 (by unfold maxLen;omega)
   generalize grownCap W n 0 9=G at*
   have hG3:G≤9223372036854775807:=by unfold maxLen at hG2;omega
   have HG:=Lib.hid (And.intro hG hG2)
   clear hG hG2 hi hz0 hz1 hz2
   go_enter Tryz.func184,Tryz.ntmps184
   go_wp2_with (at_builtin;refine Lib.wpList_append_run _ rfl _ _ _ _ rfl _ _ rfl rfl _ _ (hrun _) ?_)
   all_goals
    go_ret
    refine⟨_,_,rfl,⟨rfl,.inr ⟨W.heap.size,G,_,rfl,Nat.le_refl _,heap_alloc_new W.drew _,Nat.zero_le _,HG.out.2,?_,by simp⟩⟩,((Below.refl _ _).drew).alloc (Nat.le_refl _) _⟩
    have:=HG.out.1
    simp[Builtin.zeroCells,Value.cells]
    omega
def CcP (n:Nat) (es:List ByteArray) (W:World) (e:Ending) (w':World):Prop:=∃a c,e=.returned (.slice a n c)∧w'.ownsRow W.heap.size 9 1 (.slice a n c) n (valsS es)∧Below W.heap.size W w'
def pick3 {α:Type} (a b c:α):Nat→α
 | 0=>a
 | 1=>b
 |_=>c
theorem Concat_two {W:World} {g:Nat} {b1 b2:Option Addr} {m1 d1 m2 d2:Nat} {es fs:List ByteArray} (hg:W.heap[g]?=some (.cells #[.slice b1 m1 d1,.slice b2 m2 d2] 23 (0,0))) (h1:St W b1 m1 es) (h2:St W b2 m2 fs) (hm1:m1≤5000) (hm2:m2≤5000):
 Calls Tryz.prog 148 #[.slice (some ⟨g,0,none⟩) 2 2] W (CcP (m1+m2) (es++fs) W):=by
 have hgl:g<W.heap.size:=(Array.getElem?_eq_some_iff.1 hg).1
 have c0:W.cell? ⟨g,0,none⟩=some (.slice b1 m1 d1):=by rw[cell_of_row _ _ _ _ _ _ hg];rfl
 have c1:W.cell? ⟨g,1,none⟩=some (.slice b2 m2 d2):=by rw[cell_of_row _ _ _ _ _ _ hg];rfl
 have H1:=Lib.hid h1
 have H2:=Lib.hid h2
 have C:=Lib.hid (And.intro c0 c1)
 have KG:=Lib.hid (fun n (hn:n≤1000000) w=>Grow_nil n hn w)
 clear hg h1 h2
 go_enter Tryz.func148,Tryz.ntmps148
 go_wp2_with fail
 go_loop [3,11] (fun s i=>∃k:Nat,i=.int .i64 k∧k≤2∧s=.int .i64 (pick3 0 m1 (m1+m2) k:Nat)) (fun _ i=>2-(intOf i).toNat)
 case atStart=>exact⟨0,rfl,by omega,rfl⟩
 case round=>
  obtain⟨k,rfl,hk,rfl⟩:=hrel
  have hk3:k=0∨k=1∨k=2:=by omega
  rcases hk3 with rfl|rfl|rfl
  · have e3:¬((m1:Int)<0):=by omega
    simp only[pick3]
    go_wp2_with fail
    go_round
    case rel=>exact⟨1,rfl,by omega,by simp[pick3]⟩
    case measure=>simp[intOf]
  · have hw:IntKind.i64.wrap ((m1:Int)+(m2:Int))=((m1+m2:Nat):Int):=by rw[←Int.natCast_add];exact IntWalk.i64_in _ (by omega)
    have e3:¬(((m1+m2:Nat):Int)<0):=by omega
    simp only[pick3]
    go_wp2_with fail
    go_round
    case rel=>exact⟨2,rfl,by omega,by simp[pick3]⟩
    case measure=>simp[intOf]
  · simp only[pick3]
    go_wp2_with fail
    refine(KG.out (m1+m2) (by omega) _).mono ?_
    rintro e w ⟨ga,gc,rfl,ho,hb⟩
    have c0':=(hb.cell (p:=⟨g,0,none⟩) hgl).trans c0
    have c1':=(hb.cell (p:=⟨g,1,none⟩) hgl).trans c1
    clear c0 c1 KG
    go_wp2_with fail
    go_loopw [6,27] (fun ev i wr=>∃k:Nat,i=.int .i64 k∧k≤2∧wr.ownsRow W.heap.size 9 1 ev (pick3 0 m1 (m1+m2) k) (valsS (pick3 [] es (es++fs) k))∧Below W.heap.size W wr) (fun _ i _=>2-(intOf i).toNat)
    case atStart=>exact⟨0,rfl,by omega,ho,hb⟩
    case round=>
     obtain⟨k,rfl,hk,hown,hbq⟩:=hrel
     have hk3:k=0∨k=1∨k=2:=by omega
     rcases hk3 with rfl|rfl|rfl
     · have c0q:=(hbq.cell (p:=⟨g,0,none⟩) hgl).trans C.out.1
       have hr2:=Lib.hid (H1.out.below hbq).rd
       have ho2:=Lib.hid hown
       have hbs:=hbq.size
       clear hown
       go_wp2_with (at_builtin;refine wpList_append_rd rfl (.tmp 31) (.tmp 32) 23 rfl W.heap.size 9 (.string ⟨#[]⟩) 16 Tryz.underlying23 infoStr rfl (by decide) _ 0 (valsS []) rfl ho2.out b1 m1 d1 (valsS es) rfl hr2.out (valsS_one _) (by omega) hbs ?_;intro av' cv' w3 hown3 hg3)
       have hb4:Below W.heap.size W w3:=hbq.trans (grown_below' hg3 (fun g' hg'=>(ho2.out.lt g' hg').1) hbs)
       rw[Nat.zero_add]at hown3
       clear hg3 ho2 hr2 c0q
       go_wp2_with fail
       go_roundw
       case rel=>exact⟨1,rfl,by omega,hown3,hb4⟩
       case measure=>simp[intOf]
     · have c1q:=(hbq.cell (p:=⟨g,1,none⟩) hgl).trans C.out.2
       have hr2:=Lib.hid (H2.out.below hbq).rd
       have ho2:=Lib.hid hown
       have hbs:=hbq.size
       clear hown
       go_wp2_with (at_builtin;refine wpList_append_rd rfl (.tmp 31) (.tmp 32) 23 rfl W.heap.size 9 (.string ⟨#[]⟩) 16 Tryz.underlying23 infoStr rfl (by decide) _ m1 (valsS es) rfl ho2.out b2 m2 d2 (valsS fs) rfl hr2.out (valsS_one _) (by omega) hbs ?_;intro av' cv' w3 hown3 hg3)
       have hb4:Below W.heap.size W w3:=hbq.trans (grown_below' hg3 (fun g' hg'=>(ho2.out.lt g' hg').1) hbs)
       rw[valsS_add]at hown3
       clear hg3 ho2 hr2 c1q
       go_wp2_with fail
       go_roundw
       case rel=>exact⟨2,rfl,by omega,hown3,hb4⟩
       case measure=>simp[intOf]
     · obtain⟨ae,ce,rfl⟩:=own_form hown
       have HO:=Lib.hid (And.intro hown hbq)
       clear hown hbq
       go_wp2_with fail
       go_ret
       exact⟨_,_,rfl,HO.out.1,HO.out.2⟩
end Go.Proofs.YtbijncndjlmmdaaGreatDoor

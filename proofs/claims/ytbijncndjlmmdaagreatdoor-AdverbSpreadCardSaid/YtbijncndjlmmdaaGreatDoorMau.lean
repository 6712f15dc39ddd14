import Derived.Test.YtbijncndjlmmdaaGreatDoorMat
import Derived.Test.YtbijncndjlmmdaaGreatDoorMap
import Derived.Deep.RegionHeld3
import Derived.Deep.DeepCutAuto
set_option maxHeartbeats 6400000
set_option maxRecDepth 100000
namespace Go.Proofs.YtbijncndjlmmdaaGreatDoor
set_option linter.unusedVariables false
set_option linter.unusedSimpArgs false
open Go.RowKit
def cutA (b:Option Addr) (f t:Nat):Option Addr:=if t=f then b else b.map (·.add f)
theorem run_cut {T e:TypeId} (ht:Tryz.prog.underlying T=some (.slice e)) (hs:∀w,(Go.sizeOf e).run Tryz.prog w=.ok 1 w) (a:Option Addr) (n c f t:Nat) (h1:f≤t) (h2:t≤c) (w:World):
 (Instr.slice T (.slice a n c) (some (.int .i64 (f:Int))) (some (.int .i64 (t:Int))) (some (.int .i64 (t:Int)))).run Tryz.prog w=.ok (.slice (cutA a f t) (t-f) (t-f)) w:=by
 simp[Instr.slice,Instr.sliceBounds,Instr.sliceBound,run_underlying ht,hs,asIntOf,h1,h2,cutA]
theorem sizeInt (w:World):(Go.sizeOf 3).run Tryz.prog w=.ok 1 w:=by
 obtain⟨i0,hi,_,hz1,_⟩:=info_parts infoInt1
 simp[Go.sizeOf,typeInfo,hi,hz1]
theorem sizeStr (w:World):(Go.sizeOf 9).run Tryz.prog w=.ok 1 w:=by
 obtain⟨i0,hi,_,hz1,_⟩:=info_parts infoStr
 simp[Go.sizeOf,typeInfo,hi,hz1]
def CutEnd (b:Option Addr) (f t:Nat) (W:World) (x:Ending) (W':World):Prop:=x=.returned (.slice (cutA b f t) (t-f) (t-f))∧W=W'
theorem CutS_is (b:Option Addr) (m d f t:Nat) (W:World) (h1:f≤t) (h2:t≤d):Calls Tryz.prog 144 #[.slice b m d,.int .i64 f,.int .i64 t] W (CutEnd b f t W):=by
 have hr:=run_cut Tryz.underlying23 sizeStr b m d f t h1 h2
 go_enter Tryz.func144,Tryz.ntmps144
 go_wp2_with fail
 go_ret
 exact⟨rfl,rfl⟩
theorem CutI_is (b:Option Addr) (m d f t:Nat) (W:World) (h1:f≤t) (h2:t≤d):Calls Tryz.prog 181 #[.slice b m d,.int .i64 f,.int .i64 t] W (CutEnd b f t W):=by
 have hr:=run_cut Tryz.underlying22 sizeInt b m d f t h1 h2
 go_enter Tryz.func181,Tryz.ntmps181
 go_wp2_with fail
 go_ret
 exact⟨rfl,rfl⟩
theorem St.cut {W:World} {b:Option Addr} {m f t:Nat} {es:List ByteArray} (h:St W b m es) (h1:f≤t) (h2:t≤m):St W (cutA b f t) (t-f) ((es.drop f).take (t-f)):=by
 refine⟨by rw[List.length_take,List.length_drop,h.1];omega,fun hp=> ?_⟩
 obtain⟨bb,off,rfl,hc⟩:=h.2 (by omega)
 refine⟨bb,off+f,?_,fun j hj=> ?_⟩
 · unfold cutA
   rw[if_neg (by omega)]
   show some ((⟨bb,off,none⟩:Addr).add f)=_
   rw[Lib.add_plain]
 · rw[Nat.add_assoc,hc (f+j) (by omega)]
   simp only[List.getD_eq_getElem?_getD,List.getElem?_take_of_lt hj,List.getElem?_drop]
theorem Sl.cut {W:World} {b:Option Addr} {m f t:Nat} {l:List Int} (h:Sl W b m l) (h1:f≤t) (h2:t≤m):Sl W (cutA b f t) (t-f) ((l.drop f).take (t-f)):=by
 refine⟨by rw[List.length_take,List.length_drop,h.1];omega,fun hp=> ?_⟩
 obtain⟨bb,off,rfl,hc⟩:=h.2 (by omega)
 refine⟨bb,off+f,?_,fun j hj=> ?_⟩
 · unfold cutA
   rw[if_neg (by omega)]
   show some ((⟨bb,off,none⟩:Addr).add f)=_
   rw[Lib.add_plain]
 · rw[Nat.add_assoc,hc (f+j) (by omega)]
   simp only[List.getD_eq_getElem?_getD,List.getElem?_take_of_lt hj,List.getElem?_drop]
theorem Sl.cut1 {W:World} {b:Option Addr} {m:Nat} {l:List Int} (h:Sl W b m l) (h1:1≤m):Sl W (cutA b 1 m) (m-1) l.tail:=by
 have:=h.cut h1 (Nat.le_refl m)
 rwa [List.drop_one,List.take_of_length_le (by rw[List.length_tail,h.1];exact Nat.le_refl _)]at this
def mN (l:List Int):Nat:=(itV l).toNat
def iS (l:List Int) (m:Nat):Nat:=if m=0 then 0 else kI l
theorem Fits.all {α:Type} {l:List Int} {es:List α} (h:Fits l es):es.length=mN l*kI l∧((mN l:Nat):Int)=itV l:=by
 by_cases hl:l=[]
 · subst hl
   have:=h.2
   refine⟨?_,rfl⟩
   show _=1*1
   simp[pr]at this
   omega
 · have e:itV l=l.getD 0 0:=if_neg fun h=>hl (List.length_eq_zero_iff.1 h)
   have e2:mN l=nI l:=by unfold mN nI;rw[e]
   rw[e2]
   exact⟨h.cut hl,by rw[e];exact nI_head hl h.1⟩
section
variable {W:World} {a b:Option Addr} {n c m d:Nat} {l:List Int} {es:List ByteArray} {o:Option Ar} {q:Ar}
theorem Av.items (h:Av W a n c b m d l es (some q)):m=mN l*kI l∧((mN l:Nat):Int)=itV l∧mN l≤1099511627776∧m=mN l*iS l m:=by
 have hf:=h.fits
 rw[h.fst]at hf
 obtain⟨h1,h2⟩:=hf.all
 have h3:=h.mlen.1
 have e:itV l≤1099511627776:=by
  unfold itV
  split
  · omega
  · exact hf.1.le 0 (by omega)
 refine⟨by omega,h2,by omega,?_⟩
 unfold iS
 split
 · omega
 · omega
theorem VMany_av (h:Av W a n c b m d l es (some q)):Calls Tryz.prog 22 #[.agg #[.slice a n c,.slice b m d]] W (IntEnd (mN l:Nat) W):=by
 rw[h.items.2.1]
 exact VMany_is W h.v (by have:=h.n3;omega) h.c.nc h.c.cm
theorem ISize_is (h:Av W a n c b m d l es (some q)):Calls Tryz.prog 156 #[.agg #[.slice a n c,.slice b m d]] W (IntEnd (iS l m:Nat) W):=by
 have hb0:Below W.heap.size W (W.alloc (.cells #[.slice a n c,.slice b m d] 25)):=(Below.refl _ _).alloc (Nat.le_refl _) _
 have hA:=Bx.new W a n c b m d
 by_cases h0:m=0
 · have e:iS l m=0:=if_pos h0
   rw[e]
   subst h0
   clear h e
   go_enter Tryz.func156,Tryz.ntmps156
   go_wp2_with fail
   go_ret
   exact⟨rfl,hb0⟩
 · have K:=Lib.hid (fun w (hb:Below W.heap.size W w)=>VMany_av (h.below hb))
   obtain⟨h1,u1,h3,u2⟩:=h.items
   clear u1 u2
   have e:iS l m=kI l:=if_neg h0
   rw[e]
   have hm:=h.mlen.2.2
   have x0:=hA.c0
   have x1:=hA.c1
   have lA:=hA.lt
   generalize mN l=N at*
   generalize kI l=k at*
   have hN:0<N:=Nat.pos_of_ne_zero fun e=>h0 (by rw[h1,e,Nat.zero_mul])
   have hk:k≤m:=by rw[h1];exact Nat.le_mul_of_pos_left k hN
   have hd:(m:Int).tdiv (N:Int)=(k:Int):=by
    rw[h1,Int.natCast_mul,Int.mul_comm,Int.mul_tdiv_cancel _ (by omega)]
   have hd2:(m:Int)/(N:Int)=(k:Int):=item_div hN h1
   have hw:IntKind.i64.wrap ((m:Int).tdiv (N:Int))=(k:Int):=by rw[hd];exact IntWalk.i64_in _ (by omega)
   have hw2:IntKind.i64.wrap ((m:Int)/(N:Int))=(k:Int):=by rw[hd2];exact IntWalk.i64_in _ (by omega)
   have hN0:((N:Int)==0)=false:=beq_eq_false_iff_ne.2 (by omega)
   have hNn:(N:Int)≠0:=by omega
   have hm0:(m:Int)≠0:=by omega
   have hwN:IntKind.i64.wrap (N:Int)=(N:Int):=IntWalk.i64_in _ (by omega)
   have hwm:IntKind.i64.wrap (m:Int)=(m:Int):=IntWalk.i64_in _ (by omega)
   have hwk:IntKind.i64.wrap (k:Int)=(k:Int):=IntWalk.i64_in _ (by omega)
   have hge:(0:Int)≤(m:Int):=by omega
   have HF:=Lib.hid (And.intro hw (And.intro hw2 (And.intro hN0 (And.intro hNn (And.intro hwN (And.intro hwm hwk))))))
   clear hwN hwm hwk
   clear h h1 e hd hd2 hA hw hw2 hN0 hNn hk hN h3 h0
   go_enter Tryz.func156,Tryz.ntmps156
   go_wp2_with fail
   generalize hw4:W.alloc (.cells #[.slice a n c,.slice b m d] 25)=w4 at*
   have hq:Below w4.heap.size w4 w4:=Below.refl _ _
   obtain⟨hw,hw2,hN0,hNn,hwN,hwm,hwk⟩:=HF.out
   have K4:=Lib.hid (fun z (hz:Below w4.heap.size w4 z)=>(K.out z (hb0.trans (hz.mono hb0.size))).mono fun e w' (h:_∧_)=>(⟨h.1,hz.trans (h.2.mono hz.size)⟩:e=.returned (.int .i64 (N:Int))∧Below w4.heap.size w4 w'))
   go_region_with (go_at_call 22;refine(K4.out _ (by first|exact hq|exact Below.drew hq)).mono ?_;rintro e wq ⟨rfl,hq2⟩;have y1:=(Below.cell (p:=⟨W.heap.size,1,none⟩) hq2 lA).trans x1)
   all_goals
    go_wp2_with fail
    go_ret
    exact⟨rfl,hb0.trans (hq2.mono hb0.size)⟩
end
def ItO (v:Int) (n:Nat) (l:List Int) (W:World) (x:Ending) (W':World):Prop:=∃a c,x=.returned (.tuple #[.int .i64 v,.slice a n c])∧OwI W W' a n c l∧Below W.heap.size W W'
theorem Items_o (a:Option Addr) (n c:Nat) (l:List Int) (W:World) (h:Sl W a n l) (hn:n≤20) (hc:n≤c) (hc2:c≤maxLen):
 Calls Tryz.prog 56 #[.slice a n c] W (ItO (itV l) (n-1) l.tail W):=by
 unfold maxLen at hc2
 by_cases h0:n=0
 · subst h0
   obtain rfl:=List.length_eq_zero_iff.1 h.1
   clear h
   rw[show itV []=1 from rfl,List.tail_nil]
   go_enter Tryz.func56,Tryz.ntmps56
   go_wp2_with fail
   go_ret2
   exact⟨none,0,rfl,World.ownsRow_nil _ _ _ _,Below.refl _ _⟩
 · obtain⟨b,off,rfl,hcell⟩:=h.2 (by omega)
   have HT:=Lib.hid (h.tail (by omega))
   have hv:itV l=l.getD 0 0:=if_neg (by rw[h.1];exact h0)
   rw[hv]
   have hc0:=hcell 0 (by omega)
   rw[Nat.add_zero]at hc0
   have hlt:b<W.heap.size:=World.block_lt_of_cell? W _ hc0
   generalize l.getD 0 0=v at hc0 ⊢
   clear hv hcell h
   have e1:(n:Int)≠0:=by omega
   have e2:(0:Int)<n:=by omega
   by_cases h1:c=1
   · subst h1
     obtain rfl:n=1:=by omega
     have KC:=Lib.hid (fun w a c=>Clone_o a (1-1) c l.tail w ⟨HT.out.1,fun h=>by omega⟩ (by omega))
     go_enter Tryz.func56,Tryz.ntmps56
     go_wp2_with fail
     go_region_with (go_at_call 71;refine(KC.out _ _ _).mono ?_;rintro e w2 ⟨a',c',rfl,hs,hb2⟩;have hc2:w2.cell? ⟨b,off,none⟩=some (.int .i64 v):=(hb2.cell (p:=⟨b,off,none⟩) (by exact hlt)).trans hc0)
     all_goals
      go_wp2_with fail
      go_ret2
      exact⟨_,_,rfl,hs,⟨hb2.os,hb2.tape,hb2.output,hb2.size,hb2.block⟩⟩
   · have KC:=Lib.hid (fun w c (hw:Below W.heap.size W w)=>Clone_o _ (n-1) c l.tail w (HT.out.below hw) (by omega))
     go_enter Tryz.func56,Tryz.ntmps56
     go_wp2_with fail
     go_region_with (go_at_call 71;refine(KC.out _ _ (by exact(Below.refl _ _).drew)).mono ?_;rintro e w2 ⟨a',c',rfl,hs,hb2⟩;have hc2:w2.cell? ⟨b,off,none⟩=some (.int .i64 v):=(hb2.cell (p:=⟨b,off,none⟩) (by exact hlt)).trans hc0)
     all_goals
      go_wp2_with fail
      go_ret2
      exact⟨_,_,rfl,hs,⟨hb2.os,hb2.tape,hb2.output,hb2.size,hb2.block⟩⟩
end Go.Proofs.YtbijncndjlmmdaaGreatDoor
namespace Go.Proofs.YtbijncndjlmmdaaGreatDoor
set_option linter.unusedVariables false
set_option linter.unusedSimpArgs false
open Go.RowKit
theorem run_mki (n:Nat) (hn:n≤1000000) (w:World):
 (Instr.makeSlice 22 (.int .i64 (n:Int)) (.int .i64 (n:Int))).run Tryz.prog w=.ok (.slice (some ⟨w.heap.size,0,none⟩) n n) (w.alloc (.cells (madeCells #[.int .i64 0] n) 3)):=
 run_make_row' 22 3 _ 8 Tryz.underlying22 infoInt1 rfl _ _ n (by omega) (by omega) w
def Ir (w:World) (g n:Nat) (F:Nat→Int):Prop:=w.rowIs g 3 n (fun j=>Value.int .i64 (F j))
theorem Ir.made (w:World) (n:Nat):Ir (w.alloc (.cells (madeCells #[.int .i64 0] n) 3)) w.heap.size n (fun _=>0):=World.rowIs_made w _ n _
theorem Ir.cell {w:World} {g n:Nat} {F:Nat→Int} (h:Ir w g n F) {i:Nat} (hi:i<n):w.cell? ⟨g,i,none⟩=some (.int .i64 (F i)):=World.rowIs.cell h hi
theorem Ir.frozen {w:World} {g n:Nat} {F:Nat→Int} (h:Ir w g n F) (i:Nat):w.frozen? ⟨g,i,none⟩=false:=World.rowIs.frozen h i
theorem Ir.below {w w':World} {g n:Nat} {F:Nat→Int} (h:Ir w g n F) (hb:Below w.heap.size w w'):Ir w' g n F:=World.rowIs.of_block h (hb.block g (World.rowIs.lt h))
theorem Ir.set {w:World} {g n:Nat} {F:Nat→Int} (h:Ir w g n F) (i:Nat) (v:Int):Ir (w.setCell ⟨g,i,none⟩ (.int .i64 v)) g n (fun j=>if j=i then v else F j):=by
 refine(World.rowIs.set h i _).congr fun j _=> ?_
 show(if j=i then _ else _)=Value.int .i64 (if j=i then v else F j)
 split<;>rfl
theorem Ir.sl {w:World} {g n:Nat} {F:Nat→Int} (h:Ir w g n F) {l:List Int} (hl:l.length=n) (e:∀j,j<n→F j=l.getD j 0):Sl w (some ⟨g,0,none⟩) n l:=
 ⟨hl,fun _=>⟨g,0,rfl,fun j hj=>by rw[Nat.zero_add,h.cell hj,e j hj]⟩⟩
theorem Sr.frozen {w:World} {g n:Nat} {F:Nat→ByteArray} (h:Sr w g n F) (i:Nat):w.frozen? ⟨g,i,none⟩=false:=World.rowIs.frozen h i
theorem Sr.set {w:World} {g n:Nat} {F:Nat→ByteArray} (h:Sr w g n F) (i:Nat) (v:ByteArray):Sr (w.setCell ⟨g,i,none⟩ (.string v)) g n (fun j=>if j=i then v else F j):=by
 refine(World.rowIs.set h i _).congr fun j _=> ?_
 show(if j=i then _ else _)=Value.string (if j=i then v else F j)
 split<;>rfl
theorem map_getD (l:List Int) {j:Nat} (hj:j<l.length):(l.map S).getD j ByteArray.empty=S (l.getD j 0):=by
 simp[List.getD_eq_getElem?_getD,List.getElem?_eq_getElem hj]
def InEnd (n:Nat) (l:List Int) (W:World) (e:Ending) (W':World):Prop:=
 ∃g1 g2,e=.returned (.agg #[.slice (some ⟨g1,0,none⟩) 1 1,.slice (some ⟨g2,0,none⟩) n n])∧Vl W' (some ⟨g1,0,none⟩) 1 (some ⟨g2,0,none⟩) n [(n:Int)] (l.map S)∧Below W.heap.size W W'
theorem Ints_is (a:Option Addr) (n c:Nat) (l:List Int) (W:World) (h:Sl W a n l) (hi:∀j,j<n→I64 (l.getD j 0)) (hn:n≤1000000) (ht:WT W):
 Calls Tryz.prog 27 #[.slice a n c] W (InEnd n l W):=by
 have HS:=Lib.hid h
 have HI:=Lib.hid hi
 have HW:=Lib.hid ht
 have hmk:=run_mks n hn
 clear h hi ht
 go_enter Tryz.func27,Tryz.ntmps27
 go_wp2_with fail
 have hA:=(Bx.new W none 0 0 none 0 0).alloc (.cells (madeCells #[.string ⟨#[]⟩] n) 9)
 have hR:=Sr.made (W.alloc (.cells #[.slice none 0 0,.slice none 0 0] 25)) n
 rw[show(W.alloc (.cells #[.slice none 0 0,.slice none 0 0] 25)).heap.size=W.heap.size+1 by simp]at hR
 have hb0:Below W.heap.size W ((W.alloc (.cells #[.slice none 0 0,.slice none 0 0] 25)).alloc (.cells (madeCells #[.string ⟨#[]⟩] n) 9)):=((Below.refl _ _).alloc (Nat.le_refl _) _).alloc (by simp) _
 clear hmk
 go_loopw [11] (fun i wr=>∃(k:Nat) (F:Nat→ByteArray),i=.int .i64 k∧k≤n∧Sr wr (W.heap.size+1) n F∧Hid (∀j,j<k→F j=S (l.getD j 0))∧Bx wr W.heap.size none 0 0 none 0 0∧Below W.heap.size W wr) (fun i _=>n-(intOf i).toNat)
 case atStart=>exact⟨0,_,rfl,by omega,hR,Lib.hid (fun j hj=>by omega),hA,hb0⟩
 case round=>
  obtain⟨k,F,rfl,hk,hR1,HF,hA1,hb1⟩:=hrel
  clear hA hR hb0
  by_cases hlt:k<n
  · have e2:(k:Int)<(n:Int):=by omega
    obtain⟨bb,off,rfl,hc⟩:=HS.out.2 (by omega)
    have hck:=(hb1.cell (p:=⟨bb,off+k,none⟩) (World.block_lt_of_cell? W _ (hc k hlt))).trans (hc k hlt)
    have KO:=Lib.hid (Of_any (l.getD k 0) (HI.out k hlt).1 (HI.out k hlt).2 wr (HW.out.below hb1).tab)
    obtain⟨x,hx⟩:∃x,x=l.getD k 0:=⟨_,rfl⟩
    rw[←hx]at hck KO
    have HX:=Lib.hid hx
    clear hc hx
    go_wp2_with fail
    refine KO.out.mono ?_
    rintro e w2 ⟨rfl,hb⟩
    have hA2:=hA1.below hb hA1.lt
    have hR2:=hR1.below hb
    have hb2:=hb1.trans (hb.mono hb1.size)
    have y0:=hR2.cell (i:=k) hlt
    have f0:=hR2.frozen k
    clear hA1 hR1 hb1 hb hck
    have hR3:=hR2.set k (S x)
    have hA3:=hA2.setOther (p:=⟨W.heap.size+1,k,none⟩) (show W.heap.size≠W.heap.size+1 by omega) (.string (S x))
    have hb3:=hb2.setCell (p:=⟨W.heap.size+1,k,none⟩) (show W.heap.size≤W.heap.size+1 by omega) (.string (S x))
    have HF2:Hid (∀j,j<k+1→(fun j=>if j=k then S x else F j) j=S (l.getD j 0)):=Lib.hid fun j hj=>by
     show(if j=k then S x else F j)=_
     by_cases hjk:j=k
     · rw[if_pos hjk,hjk,HX.out]
     · rw[if_neg hjk];exact HF.out j (by omega)
    go_wp2_with fail
    go_roundw
    case rel=>exact⟨k+1,_,by go_num,by omega,hR3,HF2,hA3,hb3⟩
    case measure=>simp[intOf];omega
  · have e2:¬(k:Int)<(n:Int):=by omega
    obtain rfl:k=n:=by omega
    have hA2:=hA1.alloc (.cells #[.int .i64 k] 3)
    have y0:=hA2.c0
    have y1:=hA2.c1
    have f0:=hA2.f 0
    have f1:=hA2.f 1
    have hb2:=hb1.alloc hb1.size (.cells #[.int .i64 k] 3)
    have hS:Sl (wr.alloc (.cells #[.int .i64 k] 3)) (some ⟨wr.heap.size,0,none⟩) 1 [(k:Int)]:=Sl.row (l:=[(k:Int)]) (heap_alloc_new wr _)
    have hT:St (wr.alloc (.cells #[.int .i64 k] 3)) (some ⟨W.heap.size+1,0,none⟩) k (l.map S):=(hR1.st (by rw[List.length_map,HS.out.1]) (fun j hj=>by rw[HF.out j hj,map_getD l (by rw[HS.out.1];exact hj)])).below ((Below.refl _ _).alloc (Nat.le_refl _) _)
    clear hA1 hR1 hb1
    go_wp2_with fail
    have hA3:=hA2.set (some ⟨wr.heap.size,0,none⟩) 1 1 (some ⟨W.heap.size+1,0,none⟩) k k
    have r0:=hA3.c0
    have r1:=hA3.c1
    exact bodyPost_ret (v:=.agg #[.slice (some ⟨wr.heap.size,0,none⟩) 1 1,.slice (some ⟨W.heap.size+1,0,none⟩) k k]) (by simp[results,Tryz.results27,go_sem,r0,r1]) rfl ⟨_,_,rfl,⟨hA2.sl hS _ _,hA2.st hT _ _,by omega⟩,below_made hb2 (Nat.le_refl _) _ _⟩
theorem fine_all {l:List Int}:l.all fine=true↔∀j,j<l.length→fine (l.getD j 0)=true:=by
 rw[List.all_eq_true]
 constructor
 · intro h j hj
   rw[List.getD_eq_getElem?_getD,List.getElem?_eq_getElem hj]
   exact h _ (List.getElem_mem hj)
 · intro h x hx
   obtain⟨j,hj,rfl⟩:=List.getElem_of_mem hx
   have:=h j hj
   rwa [List.getD_eq_getElem?_getD,List.getElem?_eq_getElem hj]at this
theorem fine_some {l:List Int} {j:Nat} (hj:j<l.length) (h:fine (l.getD j 0)=false):l.all fine=false:=by
 rw[←Bool.not_eq_true]
 intro hh
 rw[fine_all.1 hh j hj]at h
 cases h
end Go.Proofs.YtbijncndjlmmdaaGreatDoor
namespace Go.Proofs.YtbijncndjlmmdaaGreatDoor
set_option linter.unusedVariables false
set_option linter.unusedSimpArgs false
open Go.RowKit
theorem Reverse_o {W:World} {B:Nat} {a:Option Addr} {n c:Nat} {l:List Int} (h:W.ownsRow B 3 1 (.slice a n c) n (valsI l)) (hn:n≤1000000):
 Calls Tryz.prog 157 #[.slice a n c] W fun e w'=>e=.returned (.tuple #[])∧w'.ownsRow B 3 1 (.slice a n c) n (valsI l.reverse)∧W.grownBy w' (Value.ownBlock (.slice a n c)):=by
 have hl:l.length=n:=by have:=h.1;simpa[valsI]using this
 by_cases h0:n=0
 · subst h0
   obtain rfl:=List.length_eq_zero_iff.1 hl
   refine(Tryz.slices_Reverse_int_empty a c W).mono ?_
   rintro e w ⟨rfl,rfl⟩
   exact⟨rfl,h,World.grownBy.refl _ _⟩
 · rcases h.2 with⟨_,e⟩|⟨g,cap,cur,e,hB,hg,h1,h2,h3,h4⟩
   · omega
   injection e with e1 e2 e3
   subst e1 e3 hl
   have hcur:∀j,j<l.length→cur[j]?=some (.int .i64 (l.getD j 0)):=by
    intro j hj
    have h5:=congrArg (fun x:List Value=>x[j]?) h4
    simp only[List.getElem?_take_of_lt (show j<l.length*1 by omega),Array.getElem?_toList]at h5
    rw[h5]
    simp[valsI,List.getD_eq_getElem?_getD,List.getElem?_eq_getElem hj]
   have hgetB:∀(m:List Int) (j:Nat),j<m.length→m.toArray[j]! =m.getD j 0:=by
    intro m j hj
    rw[getElem!_pos _ j (by simpa using hj)]
    simp[List.getD_eq_getElem?_getD,List.getElem?_eq_getElem hj]
   have hH:Go.Sort.Holds (Value.int .i64) W g 0 l.toArray:=by
    intro j hj
    have hj':j<l.length:=by simpa using hj
    refine⟨?_,frozen_of_row _ _ _ _ _ hg⟩
    rw[Nat.zero_add,cell_of_row _ _ j _ _ _ hg,hcur j hj',hgetB l j hj']
   refine(Tryz.slices_Reverse_int g 0 c l W hH (by omega)).mono ?_
   rintro e w ⟨rfl,N,rfl⟩
   refine⟨rfl,⟨by simp[valsI],.inr ⟨g,c,Go.Sort.putCells (Value.int .i64) 0 l.reverse.toArray cur,rfl,hB,?_,h1,h2,by simp[Go.Sort.putCells,h3],?_⟩⟩,⟨rfl,rfl,rfl,by simp,fun k hk hne=> ?_⟩⟩
   · have hg':(Go.Sort.ahead W N).heap[g]?=some (.cells cur 3 (0,0)):=hg
     simp[Go.Sort.putRow,Go.Sort.mapBlock,Array.getElem?_modify,hg,Go.Sort.onCells]
   · apply List.ext_getElem?
     intro j
     by_cases hj:j<l.length
     · rw[List.getElem?_take_of_lt (by omega),Array.getElem?_toList,Go.Sort.putCells,Array.getElem?_mapIdx,hcur j hj,Option.map_some,if_pos ⟨by omega,by simpa using hj⟩,Nat.sub_zero,hgetB _ j (by simpa using hj)]
       show some (Value.int .i64 (l.reverse.getD j 0))=(l.reverse.map (Value.int .i64))[j]?
       rw[List.getElem?_map,List.getD_eq_getElem?_getD,List.getElem?_eq_getElem (show j<l.reverse.length by simpa using hj)]
       rfl
     · rw[List.getElem?_eq_none (by rw[List.length_take];omega),List.getElem?_eq_none (by simp[valsI];omega)]
   · have hne':g≠k:=by intro e;exact hne (by rw[e];rfl)
     simp[Go.Sort.putRow,Go.Sort.mapBlock,Array.getElem?_modify,hne',Go.Sort.ahead]
theorem VInt_bad {a b:Option Addr} {n c m d:Nat} (W:World) (hb:n≠0∨m≠1):Calls Tryz.prog 154 #[.agg #[.slice a n c,.slice b m d]] W (NearEnd 0 3 W):=by
 have hb0:Below W.heap.size W (W.alloc (.cells #[.slice a n c,.slice b m d] 25)):=(Below.refl _ _).alloc (Nat.le_refl _) _
 by_cases h0:n=0
 · subst h0
   have h1:(m:Int)≠1:=by omega
   clear hb
   go_enter Tryz.func154,Tryz.ntmps154
   go_wp2_with fail
   go_ret2
   exact⟨rfl,hb0⟩
 · have h1:(0:Int)<(n:Int):=by omega
   clear hb h0
   go_enter Tryz.func154,Tryz.ntmps154
   go_wp2_with fail
   go_ret2
   exact⟨rfl,hb0⟩
theorem VInt_at (a:Option Addr) (c g off d:Nat) (s:ByteArray) (x e:Int) (W:World) (hc:W.cell? ⟨g,off,none⟩=some (.string s)) (hn:∀w,Below W.heap.size W w→Calls Tryz.prog 180 #[.string s] w (NearEnd x e w)):
 Calls Tryz.prog 154 #[.agg #[.slice a 0 c,.slice (some ⟨g,off,none⟩) 1 d]] W (NearEnd x e W):=by
 have K:=Lib.hid hn
 clear hn
 have hb0:Below W.heap.size W (W.alloc (.cells #[.slice a 0 c,.slice (some ⟨g,off,none⟩) 1 d] 25)):=(Below.refl _ _).alloc (Nat.le_refl _) _
 have hc1:=(hb0.cell (p:=⟨g,off,none⟩) (World.block_lt_of_cell? W _ hc)).trans hc
 go_enter Tryz.func154,Tryz.ntmps154
 go_wp2_with fail
 refine(K.out _ hb0).mono ?_
 rintro x w1 ⟨rfl,hb⟩
 go_wp2_with fail
 go_ret2
 exact⟨rfl,hb0.trans (hb.mono hb0.size)⟩
theorem near_S {x:Int} (hl:x.natAbs<lim) (W:World) (hW:WT W):Calls Tryz.prog 180 #[.string (S x)] W (NearEnd (if nearM x then x else 0) (if nearM x then 0 else 5) W):=by
 have hi:=Int_opt (s:=S x) (o:=some x) ⟨rfl,hl⟩ W hW.err
 cases hf:nearM x
 · refine near_no (S x) _ _ W hi ?_
   unfold intO
   dsimp only
   by_cases h:I64 x
   · rw[if_pos h];exact .inr hf
   · rw[if_neg h];exact .inl rfl
 · have h:=nearM_yes.1 hf
   have h64:I64 x:=by unfold I64;omega
   unfold intO at hi
   dsimp only at hi
   rw[if_pos h64]at hi
   exact near_yes (S x) x W hi hf
section
variable {W:World} {a b:Option Addr} {n c m d:Nat} {l:List Int} {es:List ByteArray} {q:Ar}
theorem VInt_av (h:Av W a n c b m d l es (some q)) (hW:WT W):Calls Tryz.prog 154 #[.agg #[.slice a n c,.slice b m d]] W (NearEnd (inM q).1 (inM q).2 W):=by
 have hl:=h.v.s.1
 have hq:=h.fst
 have hm:=h.mlen.1
 by_cases hb:n=0∧m=1
 · obtain⟨rfl,rfl⟩:=hb
   obtain⟨q1,q2⟩:=q
   simp only at hq hm
   obtain rfl:q1=[]:=by rw[hq];exact List.length_eq_zero_iff.1 hl
   obtain⟨x,rfl⟩:=List.length_eq_one_iff.1 hm.symm
   have hx:=h.i.2.2.2 x (by simp)
   have he:es=[S x]:=h.i.2.1
   subst he
   obtain⟨g,off,rfl,hc⟩:=h.v.t.2 (by omega)
   have e:inM ([],[x])=(if nearM x then x else 0,if nearM x then 0 else 5):=by
    unfold inM
    rw[if_neg (by simp)]
    show(if nearM x=true then(x,(0:Int))else(0,5))=_
    split<;>rfl
   rw[e]
   exact VInt_at a c g off d (S x) _ _ W (hc 0 (by omega)) fun w hw=>near_S hx w (hW.below hw)
 · have e:inM q=(0,3):=by
    unfold inM
    rw[if_pos]
    rcases Nat.eq_zero_or_pos n with h0|h0
    · exact .inr (by omega)
    · refine .inl fun e=> ?_
      rw[hq]at e
      rw[e]at hl
      simp at hl
      omega
   rw[e]
   exact VInt_bad W (by omega)
end
end Go.Proofs.YtbijncndjlmmdaaGreatDoor
namespace Go.Proofs.YtbijncndjlmmdaaGreatDoor
set_option linter.unusedVariables false
set_option linter.unusedSimpArgs false
open Go.RowKit
def PtEnd (l:List Int) (es:List ByteArray) (W:World) (e:Ending) (W':World):Prop:=
 ∃a n c b m d,e=.returned (.agg #[.slice a n c,.slice b m d])∧Vl W' a n b m l es∧Cp n c m d∧Below W.heap.size W W'
section
variable {W:World} {a b:Option Addr} {n c m d:Nat} {l:List Int} {es:List ByteArray} {q:Ar}
theorem Av.cuts (h:Av W a n c b m d l es (some q)) {f t:Nat} (hft:f≤t) (ht:t≤mN l):f*iS l m≤t*iS l m∧t*iS l m≤m∧ctM l es f t=(es.drop (f*iS l m)).take (t*iS l m-f*iS l m):=by
 obtain⟨h1,_,_,h4⟩:=h.items
 have h5:t*iS l m≤mN l*iS l m:=Nat.mul_le_mul_right _ ht
 refine⟨Nat.mul_le_mul_right _ hft,by omega,?_⟩
 unfold ctM
 by_cases h0:m=0
 · have he:es=[]:=List.length_eq_zero_iff.1 (h.v.t.1.trans h0)
   rw[he]
   simp
 · have e:iS l m=kI l:=if_neg h0
   rw[e,←Nat.sub_mul]
theorem kept_box {w:World} {g g':Nat} {x y v0 v1:Value} (hne:g≠g') (h:w.cell? ⟨g,0,none⟩=some x∧w.cell? ⟨g,1,none⟩=some y):
 ((w.setCell ⟨g',0,none⟩ v0).setCell ⟨g',1,none⟩ v1).cell? ⟨g,0,none⟩=some x∧((w.setCell ⟨g',0,none⟩ v0).setCell ⟨g',1,none⟩ v1).cell? ⟨g,1,none⟩=some y:=by
 have h1:∀i j:Nat,(⟨g',i,none⟩:Addr)≠⟨g,j,none⟩:=fun i j e=>by injection e with e;exact hne e.symm
 rw[World.cell?_setCell_other _ _ _ _ (h1 1 0),World.cell?_setCell_other _ _ _ _ (h1 0 0),World.cell?_setCell_other _ _ _ _ (h1 1 1),World.cell?_setCell_other _ _ _ _ (h1 0 1)]
 exact h
theorem own_new1 (w:World) (x:Int):(w.alloc (.cells #[.int .i64 x] 3)).ownsRow w.heap.size 3 1 (.slice (some ⟨w.heap.size,0,none⟩) 1 1) 1 (valsI [x]):=
 ⟨rfl,.inr ⟨w.heap.size,1,#[.int .i64 x],rfl,Nat.le_refl _,heap_alloc_new w _,Nat.le_refl _,by unfold maxLen;omega,rfl,rfl⟩⟩
theorem Part_is (h:Av W a n c b m d l es (some q)) (hn:0<n) {f t:Nat} (hft:f≤t) (ht:t≤mN l):
 Calls Tryz.prog 146 #[.agg #[.slice a n c,.slice b m d],.int .i64 f,.int .i64 t] W (PtEnd (((t-f:Nat):Int)::l.tail) (ctM l es f t) W):=by
 obtain⟨c1,c2,c3⟩:=h.cuts hft ht
 obtain⟨h1,_,h3,h4⟩:=h.items
 have hm:=h.mlen.2.2
 have hn3:=h.n3
 have hnc:=h.c.nc
 have hmd:=h.c.md
 have K1:=Lib.hid (fun w (hb:Below W.heap.size W w)=>ISize_is (h.below hb))
 have HV:=Lib.hid h.v
 rw[c3]
 obtain⟨o1,e1⟩:∃o,o=f*iS l m:=⟨_,rfl⟩
 obtain⟨o2,e2⟩:∃o,o=t*iS l m:=⟨_,rfl⟩
 obtain⟨k,hk⟩:∃k,k=iS l m:=⟨_,rfl⟩
 rw[←hk]at e1 e2 h4 c1 c2 K1
 rw[←hk,←e1,←e2]
 rw[←e1,←e2]at c1
 rw[←e2]at c2
 obtain⟨u,hu⟩:∃u,u=t-f:=⟨_,rfl⟩
 rw[←hu]
 have hw1:IntKind.i64.wrap ((f:Int)*(k:Int))=(o1:Int):=item_wrap e1 (by omega)
 have hw2:IntKind.i64.wrap ((t:Int)*(k:Int))=(o2:Int):=item_wrap e2 (by omega)
 have hw3:IntKind.i64.wrap ((t:Int)-(f:Int))=(u:Int):=by
  rw[show(t:Int)-(f:Int)=(u:Int)by omega]
  exact IntWalk.i64_in _ (by omega)
 have h:=live1 W a n c b m d
 have HW:=Lib.hid (And.intro hw1 (And.intro hw2 hw3))
 clear e1 e2 h1 h3 h4 hk c3 hu ht hft hw1 hw2 hw3
 go_enter Tryz.func146,Tryz.ntmps146
 have xv:=h.out.2.1.c0
 have yv:=h.out.2.1.c1
 go_wp2_with fail
 refine(live h (K1.out _ h.out.2.2)).mono ?_
 clear h xv yv
 rintro e w ⟨rfl,h⟩
 go_upto_region 2 with fail
 obtain⟨hw1,hw2,hw3⟩:=HW.out
 have x0:=h.out.2.1.c0
 have x1:=h.out.2.1.c1
 have lA:=h.out.2.1.lt
 have hq:Below w.heap.size w w:=Below.refl _ _
 have QI:Hid (∀z,Calls Tryz.prog 181 #[.slice a n c,.int .i64 1,.int .i64 n] z (CutEnd a 1 n z)):=Lib.hid fun z=>CutI_is a n c 1 n z (by omega) (by omega)
 have QS:Hid (∀z,Calls Tryz.prog 144 #[.slice b m d,.int .i64 o1,.int .i64 o2] z (CutEnd b o1 o2 z)):=Lib.hid fun z=>CutS_is b m d o1 o2 z c1 (by omega)
 have QC:Hid (∀z,Below w.heap.size w z→Calls Tryz.prog 66 #[.slice (cutA b o1 o2) (o2-o1) (o2-o1)] z fun e w'=>∃a' c',e=.returned (.slice a' (o2-o1) c')∧w'.ownsRow z.heap.size 9 1 (.slice a' (o2-o1) c') (o2-o1) (valsS ((es.drop o1).take (o2-o1)))∧Below z.heap.size z w'):=
  Lib.hid fun z hz=>CloneS_o (cutA b o1 o2) (o2-o1) (o2-o1) ((es.drop o1).take (o2-o1)) z ((HV.out.below (h.out.2.2.trans (hz.mono h.out.2.2.size))).t.cut c1 c2) (by omega)
 have HT:Hid (∀z,Below w.heap.size w z→Rd z (cutA a 1 n) (n-1) (valsI l.tail)):=Lib.hid fun z hz=>((HV.out.below (h.out.2.2.trans (hz.mono h.out.2.2.size))).s.cut1 (by omega)).rd
 have HO:=Lib.hid (own_new1 w (u:Int))
 clear K1
 go_region_held3 (fun w'=>w'.cell? ⟨W.heap.size,0,none⟩=some (.slice a n c)∧w'.cell? ⟨W.heap.size,1,none⟩=some (.slice b m d))
  (first|exact kept_box (by omega) ⟨(Below.cell (p:=⟨W.heap.size,0,none⟩) hq lA).trans x0,(Below.cell (p:=⟨W.heap.size,1,none⟩) hq lA).trans x1⟩|exact⟨(Below.cell (p:=⟨W.heap.size,0,none⟩) (by repeat' (first|exact hq|refine Below.drew ?_|refine below_drewN ?_ _|refine Below.alloc ?_ (Below.size (by repeat' (first|exact hq|refine Below.drew ?_|refine below_drewN ?_ _))) _)) lA).trans x0,(Below.cell (p:=⟨W.heap.size,1,none⟩) (by repeat' (first|exact hq|refine Below.drew ?_|refine below_drewN ?_ _|refine Below.alloc ?_ (Below.size (by repeat' (first|exact hq|refine Below.drew ?_|refine below_drewN ?_ _))) _)) lA).trans x1⟩|fail)
  (first
    |(go_at_call 181;(with_reducible refine(QI.out _).mono ?_);rintro e wq ⟨rfl,rfl⟩)
    |(go_at_call 144;(with_reducible refine(QS.out _).mono ?_);rintro e wq ⟨rfl,rfl⟩)
    |(go_at_call 66;(with_reducible refine(QC.out _ (by repeat' (first|exact hq|refine Below.drew ?_|refine below_drewN ?_ _|refine Below.alloc ?_ (Below.size (by repeat' (first|exact hq|refine Below.drew ?_|refine below_drewN ?_ _))) _))).mono ?_);rintro e wq ⟨ac,cc,rfl,hoc,hq2⟩;have hq5:=hq.trans (hq2.mono hq.size);have ho4:=own_below ho3 hq2;have hBR:=h.out.1.below hq5 h.out.1.lt;have y0:=hBR.c0;have y1:=hBR.c1;have f0:=hBR.f 0;have f1:=hBR.f 1;have hq:=hq5)
    |(refine step_append_rd rfl (.tmp 13) (.tmp 19) 22 rfl w.heap.size 3 (.int .i64 0) 8 Tryz.underlying22 infoInt1 rfl (by decide) _ 1 (valsI [(u:Int)]) rfl HO.out (cutA a 1 n) (n-1) (n-1) (valsI l.tail) rfl (HT.out _ (by repeat' (first|exact hq|refine Below.drew ?_|refine below_drewN ?_ _|refine Below.alloc ?_ (Below.size (by repeat' (first|exact hq|refine Below.drew ?_|refine below_drewN ?_ _))) _))) (valsI_one _) (by omega) (by simp[World.drew]) ?_;intro av cv w3 ho3 hg3;have hq:=(show Below w.heap.size w (w.alloc (.cells #[.int .i64 (u:Int)] 3)).drew from((Below.refl _ _).alloc (Nat.le_refl _) _).drew).trans (grown_below' hg3 (fun g hg=>(HO.out.lt g hg).1) (by simp[World.drew])))
    |fail)
 all_goals
  go_wp2_with fail
  have hR:=hBR.set av (1+(n-1)) cv ac (o2-o1) cc
  have r0:=hR.c0
  have r1:=hR.c1
  have hs:Sl wq av (1+(n-1)) ((u:Int)::l.tail):=own_sl (l:=(u:Int)::l.tail) ho4
  exact bodyPost_ret (v:=.agg #[.slice av (1+(n-1)) cv,.slice ac (o2-o1) cc]) (by simp[results,Tryz.results146,go_sem,r0,r1]) rfl
   ⟨_,_,_,_,_,_,rfl,⟨hBR.sl hs _ _,hBR.st (own_st hoc) _ _,by omega⟩,⟨(own_caps ho4).1,(own_caps ho4).2,(own_caps hoc).1,(own_caps hoc).2⟩,below_made (h.out.2.2.trans (hq5.mono h.out.2.2.size)) (by omega) _ _⟩
end
end Go.Proofs.YtbijncndjlmmdaaGreatDoor

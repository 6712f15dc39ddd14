import Derived.Test.YtbijncndjlmmdaaGreatDoorMay
import Derived.Test.YtbijncndjlmmdaaGreatDoorProg
import Derived.Test.YtbijncndjlmmdaaGreatDoorMae
import Derived.Test.YtbijncndjlmmdaaGreatDoorMap
import Derived.Lib.ItoaNum
import Derived.WalkKit
import Derived.WalkSpells
import Derived.WalkLawsBesides
import Derived.Lib.Hide
import Derived.BigQuiet
import Derived.Deep.QuietTactic
import Derived.Deep.OwnRows
import Derived.Laws.CopyOwn
import Derived.Lib.Walk
import Derived.Lib.ItoaWalk
import Derived.Lib.ItoaMem
import Derived.Lib.AppendIntMem
import Derived.Lib.Slices
import Derived.BigCall
import Derived.BigGuard
import Derived.Deep.RegionHeld3
import Derived.Lib.AtoiErrMem
import Derived.Test.YtbijncndjlmmdaaGreatDoorMaf
import Derived.Test.YtbijncndjlmmdaaGreatDoorMab
import Derived.Test.YtbijncndjlmmdaaGreatDoorMag
import Derived.Test.YtbijncndjlmmdaaGreatDoorMaa
import Derived.Test.YtbijncndjlmmdaaGreatDoorMac
import Derived.Test.YtbijncndjlmmdaaGreatDoorMah
import Derived.Test.YtbijncndjlmmdaaGreatDoorMad
import Derived.Test.YtbijncndjlmmdaaGreatDoorMal
import Derived.Test.YtbijncndjlmmdaaGreatDoorMaj
import Derived.Deep.RegionWith
import Derived.Deep.DeepCutAuto
import Derived.Laws.Rows
import Derived.Test.YtbijncndjlmmdaaGreatDoorMai
import Derived.Test.YtbijncndjlmmdaaGreatDoorMat
import Derived.Test.YtbijncndjlmmdaaGreatDoorMaq
import Derived.Deep.RegionLaw
import Derived.Deep.AppendLies
import Derived.Test.YtbijncndjlmmdaaGreatDoorMax
import Derived.Test.YtbijncndjlmmdaaGreatDoorMak
import Derived.BigRegion
set_option maxHeartbeats 6400000
set_option maxRecDepth 100000
namespace Go.Proofs.YtbijncndjlmmdaaGreatDoor
set_option linter.unusedVariables false
set_option linter.unusedSimpArgs false
open Go.RowKit
def rowP (a:Nat→Nat) (n:Nat):List Value:=(List.range n).map fun k=>Value.int .i64 (a k:Int)
theorem rowP_len (a:Nat→Nat) (n:Nat):(rowP a n).length=n:=by simp[rowP]
theorem rowP_at {a:Nat→Nat} {n k:Nat} (hk:k<n):(rowP a n)[k]?=some (.int .i64 (a k:Int)):=by simp[rowP,hk]
theorem rowP_no {a:Nat→Nat} {n k:Nat} (hk:¬k<n):(rowP a n)[k]?=none:=by simp[rowP];omega
theorem rowP_congr {a b:Nat→Nat} {n:Nat} (h:∀k,k<n→b k=a k):rowP b n=rowP a n:=List.map_congr_left fun k hk=>by rw[h k (List.mem_range.1 hk)]
theorem rowP_snoc (a:Nat→Nat) (n:Nat):rowP a (n+1)=rowP a n++[.int .i64 (a n:Int)]:=by simp[rowP,List.range_succ]
theorem rowP_take (a:Nat→Nat) (n:Nat):(rowP a (n+1)).take n=rowP a n:=by
 rw[rowP_snoc,List.take_left' (rowP_len a n)]
theorem rowP_swap {a:Nat→Nat} {n i j:Nat} (hi:i<n) (hj:j<n):((rowP a n).set i (.int .i64 (a j:Int))).set j (.int .i64 (a i:Int))=rowP (swp a i j) n:=by
 apply List.ext_getElem?
 intro k
 rw[List.getElem?_set,List.getElem?_set,List.length_set,rowP_len]
 by_cases hk:k<n
 · rw[rowP_at (a:=Go.Proofs.YtbijncndjlmmdaaGreatDoor.swp a i j) hk]
   by_cases h1:j=k
   · subst h1;rw[if_pos rfl,if_pos hj,swp_r]
   · rw[if_neg h1]
     by_cases h2:i=k
     · subst h2;rw[if_pos rfl,if_pos hi,swp_l]
     · rw[if_neg h2,rowP_at hk,swp_o (fun e=>h2 e.symm) (fun e=>h1 e.symm)]
 · rw[rowP_no (a:=Go.Proofs.YtbijncndjlmmdaaGreatDoor.swp a i j) hk,if_neg (fun e=>hk (by omega)),if_neg (fun e=>hk (by omega)),rowP_no hk]
structure Kep (K:Nat→Prop) (w w':World):Prop where
 os:w'.os=w.os
 tape:w'.tape=w.tape
 output:w'.output=w.output
 size:w.heap.size≤w'.heap.size
 block:∀k,K k→w'.heap[k]?=w.heap[k]?
section
variable {K:Nat→Prop} {w a b:World}
theorem Kep.refl (K:Nat→Prop) (w:World):Kep K w w:=⟨rfl,rfl,rfl,Nat.le_refl _,fun _ _=>rfl⟩
theorem Kep.on (h:Kep K w a) (hK:∀k,K k→k<w.heap.size) (hb:Below a.heap.size a b):Kep K w b:=
 ⟨hb.os.trans h.os,hb.tape.trans h.tape,hb.output.trans h.output,Nat.le_trans h.size hb.size,fun k hk=>(hb.block k (Nat.lt_of_lt_of_le (hK k hk) h.size)).trans (h.block k hk)⟩
theorem Kep.set (h:Kep K w a) {p:Addr} (hp:¬K p.block) (u:Value):Kep K w (a.setCell p u):=
 ⟨h.os,h.tape,h.output,by simpa using h.size,fun k hk=>(Below.heap_setCell a p u k (fun e=>hp (e▸hk))).trans (h.block k hk)⟩
theorem Kep.grown (h:Kep K w a) (hK:∀k,K k→k<w.heap.size) {row:Option Nat} (hg:a.grownBy b row) (hr:∀k,row=some k→¬K k):Kep K w b:=
 ⟨hg.os.trans h.os,hg.tape.trans h.tape,hg.output.trans h.output,Nat.le_trans h.size hg.size,fun k hk=>(hg.block k (Nat.lt_of_lt_of_le (hK k hk) h.size) (fun e=>hr k e.symm hk)).trans (h.block k hk)⟩
theorem Kep.below (h:Kep K w a) {B:Nat} (hB:∀k,k<B→K k):Below B w a:=⟨h.os,h.tape,h.output,h.size,fun k hk=>h.block k (hB k hk)⟩
end
structure Od (G B1:Nat) (b:Option Addr) (m d:Nat) (sg:Int) (K:Nat→Prop) (W0:World) (pf:Option Addr→Prop) (M:Nat) (a:Nat→Nat) (n:Nat) (w:World) (pa:Option Addr) (pc:Nat):Prop where
 box:w.heap[G]?=some (.cells #[.slice b m d,.slice pa n pc,.int .i64 sg] 163 (0,0))
 row:w.ownsRow B1 3 1 (.slice pa n pc) n (rowP a n)
 addr:pf pa
 kep:Kep K W0 w
 lt:∀k,k<n→a k<M
 nle:n≤M
section
variable {G B1:Nat} {b:Option Addr} {m d:Nat} {sg:Int} {K:Nat→Prop} {W0:World} {pf:Option Addr→Prop} {M:Nat} {a:Nat→Nat} {n:Nat} {w w':World} {pa:Option Addr} {pc:Nat}
theorem Od.gl (h:Od G B1 b m d sg K W0 pf M a n w pa pc):G<w.heap.size:=(Array.getElem?_eq_some_iff.1 h.box).1
theorem Od.c0 (h:Od G B1 b m d sg K W0 pf M a n w pa pc):w.cell? ⟨G,0,none⟩=some (.slice b m d):=by rw[cell_of_row _ _ _ _ _ _ h.box];rfl
theorem Od.c1 (h:Od G B1 b m d sg K W0 pf M a n w pa pc):w.cell? ⟨G,1,none⟩=some (.slice pa n pc):=by rw[cell_of_row _ _ _ _ _ _ h.box];rfl
theorem Od.c2 (h:Od G B1 b m d sg K W0 pf M a n w pa pc):w.cell? ⟨G,2,none⟩=some (.int .i64 sg):=by rw[cell_of_row _ _ _ _ _ _ h.box];rfl
theorem Od.on (h:Od G B1 b m d sg K W0 pf M a n w pa pc) (hK:∀k,K k→k<W0.heap.size) (hb:Below w.heap.size w w'):Od G B1 b m d sg K W0 pf M a n w' pa pc:=
 ⟨(hb.block G h.gl).trans h.box,own_below h.row hb,h.addr,h.kep.on hK hb,h.lt,h.nle⟩
theorem Od.drew (h:Od G B1 b m d sg K W0 pf M a n w pa pc):Od G B1 b m d sg K W0 pf M a n w.drew pa pc:=⟨h.box,h.row,h.addr,⟨h.kep.os,h.kep.tape,h.kep.output,h.kep.size,h.kep.block⟩,h.lt,h.nle⟩
theorem Od.at (h:Od G B1 b m d sg K W0 pf M a n w pa pc) (h0:0<n):∃R,pa=some ⟨R,0,none⟩∧B1≤R∧R<w.heap.size∧∀j,j<n→w.cell? ⟨R,j,none⟩=some (.int .i64 (a j:Int))∧w.frozen? ⟨R,j,none⟩=false:=by
 rcases h.row.2 with⟨e,e0⟩|⟨R,cap,cur,e,hB,hg,_⟩
 · omega
 · injection e with e1 e2 e3
   have hr:=h.row
   rw[e1]at hr
   refine⟨R,e1,hB,(Array.getElem?_eq_some_iff.1 hg).1,fun j hj=>⟨?_,hr.frozenAt j⟩⟩
   rw[hr.cellAt j (by omega),rowP_at hj]
theorem Od.caps (h:Od G B1 b m d sg K W0 pf M a n w pa pc):n≤pc∧pc≤maxLen:=own_caps h.row
end
theorem od_box1 {w:World} {G:Nat} {s0 s1 s2:Value} {t:TypeId} (h:w.heap[G]?=some (.cells #[s0,s1,s2] t (0,0))) (v:Value):(w.setCell ⟨G,1,none⟩ v).heap[G]?=some (.cells #[s0,v,s2] t (0,0)):=by
 simp[World.setCell,Array.getElem?_modify,h]
section
variable {G B1:Nat} {b:Option Addr} {m d:Nat} {sg:Int} {K:Nat→Prop} {W0:World} {pf:Option Addr→Prop} {M:Nat} {a:Nat→Nat} {n:Nat} {w w':World} {pa:Option Addr} {pc:Nat}
theorem Od.swap (h:Od G B1 b m d sg K W0 pf M a n w pa pc) (hG:G<B1) (hpf:∀R,pf (some ⟨R,0,none⟩)→B1≤R→¬K R) {R i j:Nat} (hR:pa=some ⟨R,0,none⟩) (hBR:B1≤R) (hi:i<n) (hj:j<n):
 Od G B1 b m d sg K W0 pf M (swp a i j) n ((w.setCell ⟨R,i,none⟩ (.int .i64 (a j:Int))).setCell ⟨R,j,none⟩ (.int .i64 (a i:Int))) pa pc:=by
 subst hR
 have hK:=hpf R h.addr hBR
 have r1:=(h.row.stored i (.int .i64 (a j:Int))).1
 have r2:=(r1.stored j (.int .i64 (a i:Int))).1
 rw[rowP_swap hi hj]at r2
 refine⟨?_,r2,h.addr,(h.kep.set (p:=⟨R,i,none⟩) hK _).set (p:=⟨R,j,none⟩) hK _,fun k hk=> ?_,h.nle⟩
 · exact(Below.heap_setCell _ ⟨R,j,none⟩ _ G (show G≠R by omega)).trans ((Below.heap_setCell _ ⟨R,i,none⟩ _ G (show G≠R by omega)).trans h.box)
 · unfold swp
   split
   · exact h.lt j hj
   · split
     · exact h.lt i hi
     · exact h.lt k hk
theorem Od.far (h:Od G B1 b m d sg K W0 pf M a n w pa pc) (hpf:∀R,pf (some ⟨R,0,none⟩)→B1≤R→¬K R):∀k,(Value.slice pa n pc).ownBlock=some k→B1≤k∧¬K k:=fun k hk=>by
 rcases h.row.2 with⟨e,e0⟩|⟨R,cap,cur,e,hB,hg,_⟩
 · rw[e]at hk;cases hk
 · injection e with e1 e2 e3
   subst e1
   have:R=k:=by simpa[Value.ownBlock]using hk
   subst this
   exact⟨hB,hpf R h.addr hB⟩
theorem Od.box3 (h:Od G B1 b m d sg K W0 pf M a n w pa pc) (hG:G<B1) (hpf:∀R,pf (some ⟨R,0,none⟩)→B1≤R→¬K R) {w3:World} (hg:w.grownBy w3 (Value.slice pa n pc).ownBlock):
 w3.heap[G]?=some (.cells #[.slice b m d,.slice pa n pc,.int .i64 sg] 163 (0,0)):=(hg.block G h.gl (fun e=>by have:=(h.far hpf G e.symm).1;omega)).trans h.box
theorem Od.pushed (h:Od G B1 b m d sg K W0 pf M a n w pa pc) (hK:∀k,K k→k<W0.heap.size) (hKG:¬K G) (hG:G<B1) (hpf:∀R,pf (some ⟨R,0,none⟩)→B1≤R→¬K R) (hall:∀q,pf q)
 (hM:n<M) {w3:World} {a':Option Addr} {c':Nat} (ho:w3.ownsRow B1 3 1 (.slice a' (n+1) c') (n+1) (rowP a n++[.int .i64 (n:Int)])) (hg:w.grownBy w3 (Value.slice pa n pc).ownBlock):
 Od G B1 b m d sg K W0 pf M (fun k=>if k=n then n else a k) (n+1) (w3.setCell ⟨G,1,none⟩ (.slice a' (n+1) c')) a' c':=by
 have e:rowP a n++[.int .i64 (n:Int)]=rowP (fun k=>if k=n then n else a k) (n+1):=by
  rw[rowP_snoc,if_pos rfl]
  congr 1
  exact(rowP_congr fun k hk=>if_neg (by omega)).symm
 rw[e]at ho
 have hne:=h.far hpf
 have hb3:=h.box3 hG hpf hg
 refine⟨od_box1 hb3 _,?_,hall _,(h.kep.grown hK hg fun k hk=>(hne k hk).2).set (p:=⟨G,1,none⟩) hKG _,fun k hk=> ?_,hM⟩
 · refine⟨ho.1,?_⟩
   rcases ho.2 with h0|⟨g',cap,cur,e1,e2,hg',h2⟩
   · exact .inl h0
   · exact .inr ⟨g',cap,cur,e1,e2,(Below.heap_setCell _ ⟨G,1,none⟩ _ g' (show g'≠G by omega)).trans hg',h2⟩
 · show(if k=n then n else a k)<M
   split
   · exact hM
   · exact h.lt k (by omega)
theorem Od.popped (h:Od G B1 b m d sg K W0 pf M a (n+1) w pa pc) (hKG:¬K G) (hG:G<B1):
 Od G B1 b m d sg K W0 pf M a n (w.setCell ⟨G,1,none⟩ (.slice pa n pc)) pa pc:=by
 refine⟨od_box1 h.box _,?_,h.addr,h.kep.set (p:=⟨G,1,none⟩) hKG _,fun k hk=>h.lt k (by omega),by have:=h.nle;omega⟩
 refine⟨by rw[rowP_len];omega,?_⟩
 rcases h.row.2 with⟨e,e0⟩|⟨R,cap,cur,e,hB,hg,h1,h2,h3,h4⟩
 · omega
 · injection e with e1 e2 e3
   subst e1 e3
   refine .inr ⟨R,pc,cur,rfl,hB,(Below.heap_setCell _ ⟨G,1,none⟩ _ R (show R≠G by omega)).trans hg,by omega,h2,h3,?_⟩
   rw[←rowP_take,←h4,List.take_take]
   congr 1
   omega
end
end Go.Proofs.YtbijncndjlmmdaaGreatDoor
namespace Go.Proofs.YtbijncndjlmmdaaGreatDoor
set_option linter.unusedVariables false
set_option linter.unusedSimpArgs false
section
end
section
open Go.RowKit
end
section
open Go.RowKit
end
section
open Go.RowKit
end
section
open Go.RowKit
end
section
open Go.RowKit
end
section
open Go.RowKit
open Go.RowKit
end
section
open Go.RowKit
end
section
open Go.RowKit
open Go.RowKit
end
section
open Go.RowKit
open Go.RowKit
open Go.RowKit
end
section
open Go.Lib
end
section
open Go.RowKit
end
section
open Go.RowKit
end
section
open Go.RowKit
open Go.RowKit
end
section
open Go.RowKit
end
section
open Go.RowKit
end
section
open Go.RowKit
section
variable {W W':World} {g:Nat} {s:Int} {P:Option Addr} {n c:Nat}
end
end
section
open Go.RowKit
end
section
open Go.RowKit
open Go.RowKit
end
section
open Go.RowKit
end
section
open Go.RowKit
end
end Go.Proofs.YtbijncndjlmmdaaGreatDoor
namespace Go.Proofs.YtbijncndjlmmdaaGreatDoor
set_option linter.unusedVariables false
set_option linter.unusedSimpArgs false
section
open Go.RowKit
def B (l:List UInt8):ByteArray:=⟨l.toArray⟩
end
section
open Go.RowKit
end
section
open Go.RowKit
end
end Go.Proofs.YtbijncndjlmmdaaGreatDoor
namespace Go.Proofs.YtbijncndjlmmdaaGreatDoor
set_option linter.unusedVariables false
set_option linter.unusedSimpArgs false
section
open Go.RowKit
instance (x:Int):Decidable (I64 x):=by unfold I64;infer_instance
end
section
open Go.RowKit
end
section
open Go.RowKit
end
end Go.Proofs.YtbijncndjlmmdaaGreatDoor
namespace Go.Proofs.YtbijncndjlmmdaaGreatDoor
set_option linter.unusedVariables false
set_option linter.unusedSimpArgs false
section
open Go.RowKit
end
section
open Go.RowKit
open Go.RowKit
end
section
open Go.RowKit
end
section
open Go.RowKit
end
section
open Go.RowKit
end
section
open Go.RowKit
end
section
open Go.RowKit
end
section
open Go.RowKit
end
section
open Go.RowKit
end
section
open Go.RowKit
end
section
open Go.RowKit
end
section
open Go.RowKit
end
section
open Go.RowKit
end
section
open Go.RowKit
end
section
open Go.RowKit
end
section
open Go.RowKit
end
end Go.Proofs.YtbijncndjlmmdaaGreatDoor
namespace Go.Proofs.YtbijncndjlmmdaaGreatDoor
set_option linter.unusedVariables false
set_option linter.unusedSimpArgs false
section
open Go.RowKit
end
section
open Go.RowKit
end
section
open Go.RowKit
end
section
open Go.RowKit
end
section
open Go.RowKit
end
end Go.Proofs.YtbijncndjlmmdaaGreatDoor
namespace Go.Proofs.YtbijncndjlmmdaaGreatDoor
set_option linter.unusedVariables false
set_option linter.unusedSimpArgs false
open Go.RowKit
theorem Av.stb2 {a b:Option Addr} {n c m d:Nat} {l:List Int} {es:List ByteArray} {o:Option Ar}:Stb fun w=>Av w a n c b m d l es o:=fun _ _ h hb=>h.below hb
theorem lw {P:World→Prop} {w:World} {f:FuncId} {args:Array Value} {R:Ending→World→Prop} (h:Lv P w) (hc:Calls Tryz.prog f args w fun e w'=>R e w'∧Below w.heap.size w w')
 (hs:Stb P:=by repeat' (first|exact Stb.bel _|exact Stb.bx|exact Av.stb2|refine Stb.and ?_ ?_|exact Stb.triv)):Calls Tryz.prog f args w fun e w'=>R e w'∧Lv P w':=hc.mono fun _ _ k=>⟨k.1,⟨hs _ _ h.out k.2⟩⟩
theorem lw_box {P:World→Prop} {w:World} {a b:Option Addr} {n c m d:Nat} {l:List Int} {es:List ByteArray} {o:Option Ar} (h:Lv P w) (hv:Av w a n c b m d l es o)
 (hs:Stb P:=by repeat' (first|exact Stb.bel _|exact Stb.bx|exact Av.stb2|refine Stb.and ?_ ?_|exact Stb.triv)):
 Lv (fun w'=>Bx w' w.heap.size a n c b m d∧Av w' a n c b m d l es o∧P w') (w.alloc (.cells #[.slice a n c,.slice b m d] 25)):=
 have hb:Below w.heap.size w (w.alloc (.cells #[.slice a n c,.slice b m d] 25)):=(Below.refl _ _).alloc (Nat.le_refl _) _
 ⟨⟨Bx.new _ _ _ _ _ _ _,hv.below hb,hs _ _ h.out hb⟩⟩
theorem lw_M {P:World→Prop} {w:World} {f:FuncId} {args:Array Value} {o:Option Ar} {k:Int} (h:Lv P w) (hc:Calls Tryz.prog f args w (MEnd (o,k) w))
 (hs:Stb P:=by repeat' (first|exact Stb.bel _|exact Stb.bx|exact Av.stb2|refine Stb.and ?_ ?_|exact Stb.triv)):
 Calls Tryz.prog f args w fun e w'=>∃a n c b m d,e=.returned (.tuple #[.agg #[.slice a n c,.slice b m d],.int .i64 k])∧Lv (fun w''=>Bx w'' w'.heap.size a n c b m d∧Av w'' a n c b m d (TS o).1 (TS o).2 o∧P w'') (w'.alloc (.cells #[.slice a n c,.slice b m d] 25)):=
 hc.mono fun _ _ ⟨a,n,c,b,m,d,h1,h2,h3⟩=>⟨a,n,c,b,m,d,h1,lw_box ⟨hs _ _ h.out h3⟩ h2 hs⟩
theorem Av.pt {W:World} {a b:Option Addr} {n c m d:Nat} {q:Ar} (hv:Vl W a n b m q.1 (q.2.map S)) (hc:Cp n c m d) (hr:Rok (some q)):Av W a n c b m d q.1 (q.2.map S) (some q):=⟨hv,hc,hr.sz hv.t.1.symm,hr.ais⟩
theorem lw_P {P:World→Prop} {w:World} {f:FuncId} {args:Array Value} {l xs:List Int} (h:Lv P w) (hc:Calls Tryz.prog f args w (PtEnd l (xs.map S) w)∧Rok (some (l,xs)))
 (hs:Stb P:=by repeat' (first|exact Stb.bel _|exact Stb.bx|exact Av.stb2|refine Stb.and ?_ ?_|exact Stb.triv)):
 Calls Tryz.prog f args w fun e w'=>∃a n c b m d,e=.returned (.agg #[.slice a n c,.slice b m d])∧Lv (fun w''=>Av w'' a n c b m d l (xs.map S) (some (l,xs))∧P w'') w':=
 hc.1.mono fun _ _ ⟨a,n,c,b,m,d,h1,h2,h3,h4⟩=>⟨a,n,c,b,m,d,h1,⟨⟨Av.pt h2 h3 hc.2,hs _ _ h.out h4⟩⟩⟩
theorem lw_one {a b:Option Addr} {n c m d:Nat} {l:List Int} {es:List ByteArray} {o:Option Ar} (W:World) (hv:Av W a n c b m d l es o):
 Lv (fun w'=>Bx w' W.heap.size a n c b m d∧Av w' a n c b m d l es o∧Below W.heap.size W w') (W.alloc (.cells #[.slice a n c,.slice b m d] 25)):=lw_box ⟨Below.refl _ _⟩ hv
theorem Av.on {W W':World} {a b:Option Addr} {n c m d:Nat} {l:List Int} {es:List ByteArray} {o:Option Ar} (h:Av W a n c b m d l es o) (hb:Below W.heap.size W W'):Av W' a n c b m d l es o:=h.below hb
theorem sc_rok {x:Int} (h:x.natAbs<lim):Rok (some ([],[x])):=⟨(by decide:szE []=0),(rfl:((1:Nat):Int)=pr []),fun y hy=>by rw[List.mem_singleton]at hy;rw[hy];exact h⟩
theorem VSame_av {W:World} {a1 b1 a2 b2:Option Addr} {n1 c1 m1 d1 n2 c2 m2 d2:Nat} {l m:List Int} {es fs:List ByteArray} (h1:Vl W a1 n1 b1 m1 l es) (h2:Vl W a2 n2 b2 m2 m fs) (q1:n1≤1000000) (q2:n2≤1000000) (e1:l=m) (e2:es=fs):
 Calls Tryz.prog 20 #[.agg #[.slice a1 n1 c1,.slice b1 m1 d1],.agg #[.slice a2 n2 c2,.slice b2 m2 d2]] W (BoolEnd true W):=by
 have h:=VSame_is (c1:=c1) (d1:=d1) (c2:=c2) (d2:=d2) W h1 h2 q1 q2
 subst e1 e2
 rwa [beq_self_eq_true,decide_eq_true rfl,Bool.and_self]at h
theorem new_drew (w:World) (o:Obj):(w.alloc o).drew.heap[w.heap.size]?=some o:=heap_alloc_new w o
theorem new_past (w:World) (o o':Obj):((w.alloc o).alloc o').heap[w.heap.size]?=some o:=(Below.heap_alloc (w.alloc o) o' _ (by simp)).trans (heap_alloc_new w o)
theorem new_pastd (w:World) (o o':Obj):((w.alloc o).alloc o').drew.heap[w.heap.size]?=some o:=new_past w o o'
theorem new_pastd2 (w:World) (o o':Obj):((w.alloc o).drew.alloc o').heap[w.heap.size]?=some o:=new_past w o o'
theorem new_pastd3 (w:World) (o o':Obj):((w.alloc o).drew.alloc o').drew.heap[w.heap.size]?=some o:=new_past w o o'
theorem new_on (w:World) (o o':Obj):((w.alloc o').alloc o).heap[w.heap.size+1]?=some o:=by have:=heap_alloc_new (w.alloc o') o;rwa [World.size_alloc]at this
theorem new_ond (w:World) (o o':Obj):((w.alloc o').alloc o).drew.heap[w.heap.size+1]?=some o:=new_on w o o'
theorem new_ond2 (w:World) (o o':Obj):((w.alloc o').drew.alloc o).drew.heap[w.heap.size+1]?=some o:=new_on w o o'
theorem new_ond3 (w:World) (o o':Obj):((w.alloc o').drew.alloc o).heap[w.heap.size+1]?=some o:=new_on w o o'
end Go.Proofs.YtbijncndjlmmdaaGreatDoor
namespace Go.Proofs.YtbijncndjlmmdaaGreatDoor
set_option linter.unusedVariables false
set_option linter.unusedSimpArgs false
section
open Go.RowKit
end
section
open Go.RowKit
end
end Go.Proofs.YtbijncndjlmmdaaGreatDoor
namespace Go.Proofs.YtbijncndjlmmdaaGreatDoor
set_option linter.unusedVariables false
set_option linter.unusedSimpArgs false
open Go.RowKit
end Go.Proofs.YtbijncndjlmmdaaGreatDoor
namespace Go.Proofs.YtbijncndjlmmdaaGreatDoor
set_option linter.unusedVariables false
set_option linter.unusedSimpArgs false
end Go.Proofs.YtbijncndjlmmdaaGreatDoor
namespace Go.Proofs.YtbijncndjlmmdaaGreatDoor
set_option linter.unusedVariables false
set_option linter.unusedSimpArgs false
open Go.RowKit
end Go.Proofs.YtbijncndjlmmdaaGreatDoor
namespace Go.Proofs.YtbijncndjlmmdaaGreatDoor
set_option linter.unusedVariables false
set_option linter.unusedSimpArgs false
open Go.RowKit
section
variable {W:World} {a b:Option Addr} {n c m d:Nat} {l:List Int} {es:List ByteArray} {q:Ar}
end
end Go.Proofs.YtbijncndjlmmdaaGreatDoor
namespace Go.Proofs.YtbijncndjlmmdaaGreatDoor
set_option linter.unusedVariables false
set_option linter.unusedSimpArgs false
open Go.RowKit
theorem own_newS1 (w:World) (s:ByteArray):(w.alloc (.cells #[.string s] 9)).ownsRow w.heap.size 9 1 (.slice (some ⟨w.heap.size,0,none⟩) 1 1) 1 (valsS [s]):=
 ⟨rfl,.inr ⟨w.heap.size,1,#[.string s],rfl,Nat.le_refl _,heap_alloc_new w _,Nat.le_refl _,by unfold maxLen;omega,rfl,rfl⟩⟩
theorem takeI_snoc {l:List Int} {k:Nat} (hk:k<l.length):l.take (k+1)=l.take k++[l.getD k 0]:=by
 rw[List.take_add_one,List.getD_eq_getElem?_getD,List.getElem?_eq_getElem hk];rfl
end Go.Proofs.YtbijncndjlmmdaaGreatDoor
namespace Go.Proofs.YtbijncndjlmmdaaGreatDoor
set_option linter.unusedVariables false
set_option linter.unusedSimpArgs false
open Go.RowKit
theorem Stb.sl {a:Option Addr} {n:Nat} {l:List Int}:Stb fun w=>Sl w a n l:=fun _ _ h hb=>h.below hb
theorem Stb.st {a:Option Addr} {n:Nat} {l:List ByteArray}:Stb fun w=>St w a n l:=fun _ _ h hb=>h.below hb
theorem live_belS {P:World→Prop} {w w':World} {B:Nat} (h:Lv P w) (hb:Below B w w') (hB:w.heap.size≤B) (hs:Stb P:=by repeat' (first|exact Stb.bel _|exact Stb.bx|exact Stb.vl|exact Stb.sl|exact Stb.st|refine Stb.and ?_ ?_|exact Stb.triv)):Lv P w':=⟨hs _ _ h.out (hb.mono hB)⟩
theorem stepI {ops:Array Oper} {o:Oper} {a:Act} {K:Act→World→Prop} {Q:Exit→Act→World→Prop} {E:Prop} {w:World} (wr:World) (B:Nat) (s x:Operand) (av:Option Addr) (n cv:Nat) (xs:List Value) (v:Int)
 (ho:o.op=.call {callee:=.builtin .append,args:=#[s,x],argTypes:=#[22,22]}) (hgd:o.guard=none)
 (hs:a.eval s=.slice av n cv) (hx:a.eval x=.slice (some ⟨wr.heap.size,0,none⟩) 1 1) (hh:w.heap=wr.heap.push (.cells #[.int .i64 v] 3)) (h1:w.os=wr.os) (h2:w.tape=wr.tape) (h3:w.output=wr.output)
 (hown:wr.ownsRow B 3 1 (.slice av n cv) n xs) (hsz:B≤wr.heap.size) (hn:n≤100000)
 (h:∀av' cv' w',w'.ownsRow B 3 1 (.slice av' (n+1) cv') (n+1) (xs++[.int .i64 v])→wr.grownBy w' (Value.slice av n cv).ownBlock→((Value.slice av' (n+1) cv').ownBlock=(Value.slice av n cv).ownBlock∨∃g,(Value.slice av' (n+1) cv').ownBlock=some g∧wr.heap.size≤g)→K (a.put o.dst (.slice av' (n+1) cv')) w'):
 if Region.wanted o (yielded ops a.tmps)=true then Oper.wp Tryz.prog o a w K Q else E:=by
 obtain⟨i0,hi,hz0,hz1,hz2⟩:=info_parts infoInt
 have hown2:w.ownsRow B 3 1 (.slice av n cv) n xs:=by
  have h4:=hown.alloc (.cells #[.int .i64 v] 3)
  unfold World.ownsRow at h4 ⊢
  rw[hh]
  exact h4
 refine step_append_lies w hgd s x 22 ho B 3 i0 (.int .i64 0) 1 8 Tryz.underlying22 hi hz0 hz1 hz2 rfl (by decide) _ _ _ hs hown2 ⟨wr.heap.size,0,none⟩ 1 1 [.int .i64 v] hx rfl ?_ ?_ (by decide) (by unfold maxLen;omega) (by omega) (by rw[hh,Array.size_push];omega) _ rfl ?_
 · exact World.news_of_block (t:=3) (fr:=(0,0)) (cs:=#[.int .i64 v]) (by rw[hh];simp)
 · intro u hu
   rw[List.mem_singleton]at hu
   rw[hu];rfl
 · intro g cap w' o1 o2 o3 _
   refine h _ _ w' o1 ⟨o2.os.trans h1,o2.tape.trans h2,o2.output.trans h3,?_,fun k hk hne=> ?_⟩ ?_
   · have:=o2.size;rw[hh,Array.size_push]at this;omega
   · rw[o2.block k (by rw[hh,Array.size_push];omega) hne,hh,Array.getElem?_push,if_neg (by omega)]
   · rcases o3 with e|e
     · exact .inl e.symm
     · exact .inr ⟨g,rfl,by rw[e,hh,Array.size_push];omega⟩
end Go.Proofs.YtbijncndjlmmdaaGreatDoor
namespace Go.Proofs.YtbijncndjlmmdaaGreatDoor
set_option linter.unusedVariables false
set_option linter.unusedSimpArgs false
open Go.RowKit
structure OC (G B1:Nat) (b:Option Addr) (m d:Nat) (sg:Int) (K:Nat→Prop) (W0:World) (pf:Option Addr→Prop) (M:Nat) (xs:List Int):Prop where
 hK:∀k,K k→k<W0.heap.size
 hKG:¬K G
 hB:B1=G+1
 hpf:∀R,pf (some ⟨R,0,none⟩)→B1≤R→¬K R
 hE:∀w,Kep K W0 w→St w b m (xs.map S)
 hX:∀x∈xs,x.natAbs<lim
 hM:M=m
 hm:m≤5000
 hsg:sg=1∨sg= -1
theorem OC.hG {G B1:Nat} {b:Option Addr} {m d:Nat} {sg:Int} {K:Nat→Prop} {W0:World} {pf:Option Addr→Prop} {M:Nat} {xs:List Int} (C:OC G B1 b m d sg K W0 pf M xs):G<B1:=by have:=C.hB;omega
def OS (G B1:Nat) (b:Option Addr) (m d:Nat) (sg:Int) (K:Nat→Prop) (W0:World) (pf:Option Addr→Prop) (M:Nat) (a:Nat→Nat) (n:Nat) (w:World):Prop:=∃pa pc,Od G B1 b m d sg K W0 pf M a n w pa pc
def LsEnd (P:Prop) (X:World→Prop) (e:Ending) (w':World):Prop:=∃t:Bool,e=.returned (.bool t)∧(t=true↔P)∧X w'
theorem sg_cmp {sg x y:Int} (h:sg=1∨sg= -1):(sg*cmpI x y<0↔sg*x<sg*y)∧(sg*cmpI x y=0↔sg*x=sg*y)∧ -1≤sg*cmpI x y∧sg*cmpI x y≤1:=by
 rcases h with rfl|rfl<;>unfold cmpI<;>split<;>(try split)<;>refine⟨?_,?_,?_,?_⟩<;>omega
section
variable {G B1:Nat} {b:Option Addr} {m d:Nat} {sg:Int} {K:Nat→Prop} {W0:World} {pf:Option Addr→Prop} {M:Nat} {xs:List Int} {a:Nat→Nat} {n:Nat} {w w':World}
theorem olen_q {pa:Option Addr} {pc:Nat} (h:Od G B1 b m d sg K W0 pf M a n w pa pc):Calls Tryz.prog 193 #[.pointer (some ⟨G,0,none⟩)] w fun e w'=>e=.returned (.int .i64 (n:Int))∧w=w':=by
 have y1:=h.c1
 clear h
 go_enter Tryz.func193,Tryz.ntmps193
 go_wp2_with fail
 go_ret
 exact⟨rfl,rfl⟩
theorem olen_is (h:OS G B1 b m d sg K W0 pf M a n w):Calls Tryz.prog 193 #[.pointer (some ⟨G,0,none⟩)] w fun e w'=>e=.returned (.int .i64 (n:Int))∧OS G B1 b m d sg K W0 pf M a n w':=by
 obtain⟨pa,pc,h⟩:=h
 exact(olen_q h).mono fun e w' k=>⟨k.1,pa,pc,by rw[←k.2];exact h⟩
theorem opop_is (C:OC G B1 b m d sg K W0 pf M xs) (h:OS G B1 b m d sg K W0 pf M a (n+1) w):Calls Tryz.prog 338 #[.pointer (some ⟨G,0,none⟩)] w fun e w'=>e=.returned (.iface 3 (.int .i64 (a n:Int)))∧OS G B1 b m d sg K W0 pf M a n w':=by
 obtain⟨pa,pc,h⟩:=h
 obtain⟨R,rfl,hBR,hRl,hc⟩:=h.at (by omega)
 have y1:=h.c1
 have hcn:=(hc n (by omega)).1
 have hw:IntKind.i64.wrap (n:Int)=(n:Int):=IntWalk.i64_in _ (by have:=h.nle;have:=C.hm;have:=C.hM;omega)
 have hcap:n≤pc:=by have:=h.caps;omega
 have hfz:=frozen_of_row w G 1 _ _ h.box
 have H:=Lib.hid (h.popped C.hKG C.hG)
 obtain⟨x,hx⟩:∃x:Int,x=(a n:Int):=⟨_,rfl⟩
 rw[←hx]at hcn ⊢
 clear h hc C hx
 go_enter Tryz.func338,Tryz.ntmps338
 go_wp2_with fail
 go_ret
 exact⟨rfl,_,_,H.out⟩
theorem oswap_is (C:OC G B1 b m d sg K W0 pf M xs) (h:OS G B1 b m d sg K W0 pf M a n w) {i j:Nat} (hi:i<n) (hj:j<n):Calls Tryz.prog 340 #[.pointer (some ⟨G,0,none⟩),.int .i64 (i:Int),.int .i64 (j:Int)] w fun e w'=>e=.returned (.tuple #[])∧OS G B1 b m d sg K W0 pf M (swp a i j) n w':=by
 obtain⟨pa,pc,h⟩:=h
 obtain⟨R,rfl,hBR,hRl,hc⟩:=h.at (by omega)
 have y1:=h.c1
 have ci:=(hc i hi).1
 have cj:=(hc j hj).1
 have fi:=(hc i hi).2
 have fj:=(hc j hj).2
 have H:=Lib.hid (h.swap C.hG C.hpf rfl hBR hi hj)
 obtain⟨x,hx⟩:∃x:Int,x=(a i:Int):=⟨_,rfl⟩
 obtain⟨y,hy⟩:∃y:Int,y=(a j:Int):=⟨_,rfl⟩
 rw[←hx]at ci H
 rw[←hy]at cj H
 have hi2:(i:Int)<(n:Int):=by omega
 have hj2:(j:Int)<(n:Int):=by omega
 have cj3:(w.setCell ⟨R,i,none⟩ (.int .i64 y)).cell? ⟨R,j,none⟩=some (.int .i64 y):=by
  by_cases e:i=j
  · subst e;exact World.cell?_setCell_same' _ _ _ (by rw[ci];rfl)
  · rw[World.cell?_setCell_other _ _ _ _ (by simp[e]),cj]
 clear h hc C hx hy
 go_enter Tryz.func340,Tryz.ntmps340
 go_wp2_with fail
 go_region
 all_goals
  go_wp2_with fail
  go_end0
  exact⟨rfl,_,_,by first|exact H.out|exact H.out.drew⟩
theorem opush_is (C:OC G B1 b m d sg K W0 pf M xs) (hall:∀q,pf q) (h:OS G B1 b m d sg K W0 pf M a n w) (hn:n<M):Calls Tryz.prog 339 #[.pointer (some ⟨G,0,none⟩),.iface 3 (.int .i64 (n:Int))] w fun e w'=>e=.returned (.tuple #[])∧∃c,OS G B1 b m d sg K W0 pf M c (n+1) w'∧c n=n∧∀k,k<n→c k=a k:=by
 obtain⟨pa,pc,h⟩:=h
 have y1:=h.c1
 have HX:=Lib.hid h
 have HC:=Lib.hid C
 have hn5:n≤100000:=by have:=C.hm;have:=C.hM;omega
 have hB:B1≤w.heap.size:=by have:=h.gl;have:=C.hB;omega
 have y1a:(w.alloc (.cells #[.int .i64 (n:Int)] 3)).cell? ⟨G,1,none⟩=some (.slice pa n pc):=(((Below.refl w.heap.size w).alloc (Nat.le_refl _) _).cell (p:=⟨G,1,none⟩) h.gl).trans y1
 have hta:∀w,(Instr.typeAssert (.iface 3 (.int .i64 (n:Int))) 20 3 false).run Tryz.prog w=.ok (.int .i64 (n:Int)) w:=fun w=>by kernel_rfl
 clear h C
 go_enter Tryz.func339,Tryz.ntmps339
 go_wp2_with fail
 go_region_law (refine stepI w B1 (.tmp 8) (.tmp 11) pa n pc _ (n:Int) rfl rfl rfl rfl rfl rfl rfl rfl HX.out.row (by omega) (by omega) ?_;intro av' cv' w9 hown9 hg9 _;have hO9:=HX.out.box3 HC.out.hG HC.out.hpf hg9;have g9:=frozen_of_row w9 G 1 _ _ hO9;have z9:w9.cell? ⟨G,1,none⟩=some (.slice pa n pc):=by rw[cell_of_row _ _ _ _ _ _ hO9];rfl)
 all_goals
  have hP:=Lib.hid (HX.out.pushed HC.out.hK HC.out.hKG HC.out.hG HC.out.hpf hall hn hown9 hg9)
  clear hown9 hg9 hO9 g9 z9
  go_wp2_with fail
  go_end0
  exact⟨rfl,_,⟨_,_,hP.out⟩,if_pos rfl,fun k hk=>if_neg (by omega)⟩
theorem oless_is (C:OC G B1 b m d sg K W0 pf M xs) (h:OS G B1 b m d sg K W0 pf M a n w) {i j:Nat} (hi:i<n) (hj:j<n):Calls Tryz.prog 337 #[.pointer (some ⟨G,0,none⟩),.int .i64 (i:Int),.int .i64 (j:Int)] w (LsEnd (Lf (fun k=>sg*xs.getD k 0) (a i) (a j)) (OS G B1 b m d sg K W0 pf M a n)):=by
 obtain⟨pa,pc,h⟩:=h
 obtain⟨R,rfl,hBR,hRl,hc⟩:=h.at (by omega)
 have y0:=h.c0
 have y1:=h.c1
 have y2:=h.c2
 have hE:=C.hE w h.kep
 have hai:a i<m:=by have:=h.lt i hi;have:=C.hM;omega
 have haj:a j<m:=by have:=h.lt j hj;have:=C.hM;omega
 have ci:=(hc i hi).1
 have cj:=(hc j hj).1
 obtain⟨bb,off,rfl,hcE⟩:=hE.2 (by omega)
 have hxl:xs.length=m:=by have:=hE.1;rwa [List.length_map]at this
 have ei:=hcE (a i) hai
 have ej:=hcE (a j) haj
 rw[getD_S (by omega)]at ei ej
 have HL:Hid (Lf (fun k=>sg*xs.getD k 0) (a i) (a j)↔sg*cmpI (xs.getD (a i) 0) (xs.getD (a j) 0)<0∨(sg*cmpI (xs.getD (a i) 0) (xs.getD (a j) 0)=0∧a i<a j)):=Lib.hid (by
  obtain⟨s1,s2,_⟩:=sg_cmp (x:=xs.getD (a i) 0) (y:=xs.getD (a j) 0) C.hsg
  unfold Lf
  rw[s1,s2])
 obtain⟨-, -,b1,b2⟩:=sg_cmp (x:=xs.getD (a i) 0) (y:=xs.getD (a j) 0) C.hsg
 have KQ:Hid (∀z,Below w.heap.size w z→Calls Tryz.prog 245 #[.string (S (xs.getD (a i) 0)),.string (S (xs.getD (a j) 0))] z fun e w'=>e=.returned (.int .i64 (cmpI (xs.getD (a i) 0) (xs.getD (a j) 0)))∧Below w.heap.size w w'):=Lib.hid fun z hz=>(Cmp_yes (xs.getD (a i) 0) (xs.getD (a j) 0) z (getD_bd C.hX _) (getD_bd C.hX _)).mono fun e w' k=>⟨k.1,hz.trans (k.2.mono hz.size)⟩
 obtain⟨u,hu⟩:∃u:Int,u=(a i:Int):=⟨_,rfl⟩
 obtain⟨v,hv⟩:∃v:Int,v=(a j:Int):=⟨_,rfl⟩
 obtain⟨q,hq⟩:∃q:Int,q=sg*cmpI (xs.getD (a i) 0) (xs.getD (a j) 0):=⟨_,rfl⟩
 rw[←hq]at HL b1 b2
 obtain⟨s,hs⟩:∃s,s=S (xs.getD (a i) 0):=⟨_,rfl⟩
 obtain⟨t,ht⟩:∃t,t=S (xs.getD (a j) 0):=⟨_,rfl⟩
 rw[←hs]at ei KQ
 rw[←ht]at ej KQ
 obtain⟨z,hz⟩:∃z:Int,z=cmpI (xs.getD (a i) 0) (xs.getD (a j) 0):=⟨_,rfl⟩
 rw[←hz]at KQ hq
 have hw:IntKind.i64.wrap (sg*z)=q:=by rw[←hq];exact IntWalk.i64_in _ (by omega)
 have ha1:0≤u:=by omega
 have ha2:u<(m:Int):=by omega
 have ha3:0≤v:=by omega
 have ha4:v<(m:Int):=by omega
 have e1:u.toNat=a i:=by omega
 have e2:v.toNat=a j:=by omega
 rw[←hu]at ci
 rw[←hv]at cj
 have ei':w.cell? ⟨bb,off+u.toNat,none⟩=some (.string s):=by rw[e1];exact ei
 have ej':w.cell? ⟨bb,off+v.toNat,none⟩=some (.string t):=by rw[e2];exact ej
 have HUV:Hid (a i<a j↔u<v):=Lib.hid (by omega)
 have hi2:(i:Int)<(n:Int):=by omega
 have hj2:(j:Int)<(n:Int):=by omega
 have HO:=Lib.hid (fun z (hb:Below w.heap.size w z)=>(⟨_,_,h.on C.hK hb⟩:OS G B1 (some ⟨bb,off,none⟩) m d sg K W0 pf M a n z))
 have l0:=h.gl
 have lE:=World.block_lt_of_cell? w _ ei
 clear h hc C hE hcE ei ej hai haj hxl hu hv hq hs ht hz e1 e2
 go_enter Tryz.func337,Tryz.ntmps337
 have hq3:q= -1∨q=0∨q=1:=by omega
 have HQ3:=Lib.hid hq3
 clear hq3
 go_wp2_with fail
 go_quiet (fail)
 go_wp2_with fail
 have hq:=below_drewN (Below.refl w.heap.size w) nq
 generalize w.drewN nq=wq at hq ⊢
 have hqz:=hq.size
 clear ci cj
 go_region_held3 (fun w'=>w'.cell? ⟨G,0,none⟩=some (.slice (some ⟨bb,off,none⟩) m d)∧w'.cell? ⟨G,2,none⟩=some (.int .i64 sg)∧w'.cell? ⟨bb,off+u.toNat,none⟩=some (.string s)∧w'.cell? ⟨bb,off+v.toNat,none⟩=some (.string t))
  (first|exact⟨(Below.cell (p:=⟨G,0,none⟩) (by repeat' (first|exact hq|refine Below.drew ?_|refine below_drewN ?_ _|refine Below.alloc ?_ ?_ _|refine Below.setCell ?_ ?_ _|exact hqz|exact Nat.le_refl _|omega|(simp;done)|(simp;omega))) l0).trans y0,(Below.cell (p:=⟨G,2,none⟩) (by repeat' (first|exact hq|refine Below.drew ?_|refine below_drewN ?_ _|refine Below.alloc ?_ ?_ _|refine Below.setCell ?_ ?_ _|exact hqz|exact Nat.le_refl _|omega|(simp;done)|(simp;omega))) l0).trans y2,(Below.cell (p:=⟨bb,off+u.toNat,none⟩) (by repeat' (first|exact hq|refine Below.drew ?_|refine below_drewN ?_ _|refine Below.alloc ?_ ?_ _|refine Below.setCell ?_ ?_ _|exact hqz|exact Nat.le_refl _|omega|(simp;done)|(simp;omega))) lE).trans ei',(Below.cell (p:=⟨bb,off+v.toNat,none⟩) (by repeat' (first|exact hq|refine Below.drew ?_|refine below_drewN ?_ _|refine Below.alloc ?_ ?_ _|refine Below.setCell ?_ ?_ _|exact hqz|exact Nat.le_refl _|omega|(simp;done)|(simp;omega))) lE).trans ej'⟩|fail)
  (first
    |(go_at_call 245;(with_reducible refine(KQ.out _ (by repeat' (first|exact hq|refine Below.drew ?_|refine below_drewN ?_ _|refine Below.alloc ?_ ?_ _|refine Below.setCell ?_ ?_ _|exact hqz|exact Nat.le_refl _|omega|(simp;done)|(simp;omega)))).mono ?_);rintro e wa ⟨rfl,hq⟩;have hqz:=hq.size)
    |fail)
 all_goals
  have hb9:=Lib.hid (HO.out _ (by repeat' (first|exact hq|refine Below.drew ?_|refine below_drewN ?_ _|refine Below.alloc ?_ ?_ _|refine Below.setCell ?_ ?_ _|exact hqz|exact Nat.le_refl _|omega|(simp;done)|(simp;omega))))
  clear hq hqz y0 y1 y2 ei' ej' KQ HO hw b1 b2
  rcases HQ3.out with h|h|h
  · subst h
    go_wp2_with fail
    go_ret
    exact⟨true,rfl,⟨fun _=>HL.out.2 (.inl (by omega)),fun _=>rfl⟩,hb9.out⟩
  · subst h
    by_cases huv:u<v
    · go_wp2_with fail
      go_ret
      exact⟨true,rfl,⟨fun _=>HL.out.2 (.inr ⟨(by first|rfl|trivial),HUV.out.2 huv⟩),fun _=>rfl⟩,hb9.out⟩
    · go_wp2_with fail
      go_ret
      exact⟨false,rfl,⟨fun k=>(by cases k),fun k=>by
       rcases HL.out.1 k with k|k
       · omega
       · have:=HUV.out.1 k.2;omega⟩,hb9.out⟩
  · subst h
    go_wp2_with fail
    go_ret
    exact⟨false,rfl,⟨fun k=>(by cases k),fun k=>by
     rcases HL.out.1 k with k|k<;>omega⟩,hb9.out⟩
end
end Go.Proofs.YtbijncndjlmmdaaGreatDoor

import Derived.Test.YtbijncndjlmmdaaGreatDoorMaq
import Derived.Test.YtbijncndjlmmdaaGreatDoorMat
import Derived.OwnWalkIn
import Derived.Test.YtbijncndjlmmdaaGreatDoorMay
namespace Go.Proofs.YtbijncndjlmmdaaGreatDoor
set_option linter.unusedVariables false
set_option linter.unusedSimpArgs false
open Go.RowKit
def SoftV (x:Value):Prop:=(∀k v,x≠ .int k v)∧∀s,x≠ .string s
def NoData (W:World) (k:Nat):Prop:=∀off x,W.cell? ⟨k,off,none⟩=some x→SoftV x
structure Soft (W W':World):Prop where
 size:W.heap.size≤W'.heap.size
 block:∀k,k<W.heap.size→W'.heap[k]?=W.heap[k]?∨NoData W k
theorem softV_slice (a:Option Addr) (n c:Nat):SoftV (.slice a n c):=⟨fun _ _ h=>(by cases h),fun _ h=>(by cases h)⟩
theorem NoData.same {W W':World} {k:Nat} (h:W'.heap[k]?=W.heap[k]?) (hk:NoData W k):NoData W' k:=fun off x hx=>hk off x ((World.cell?_of_block (a:=⟨k,off,none⟩) h).symm.trans hx)
theorem nodata_others {W:World} {k:Nat} {o:Obj} (h:W.heap[k]?=some o) (ho:o.isCells=false):NoData W k:=by
 intro off x hx
 cases o<;>simp_all[World.cell?,Obj.isCells]
theorem nodata_cells {W:World} {k:Nat} {cur:Array Value} {t:TypeId} (h:W.heap[k]?=some (.cells cur t (0,0))) (hs:∀x∈cur.toList,SoftV x):NoData W k:=by
 intro off x hx
 rw[cell_of_row _ _ off _ _ _ h]at hx
 exact hs x (by
  obtain⟨hlt,e⟩:=Array.getElem?_eq_some_iff.1 hx
  rw[←e,Array.mem_toList_iff]
  exact Array.getElem_mem hlt)
theorem nodata_bx {W:World} {g:Nat} {a b:Option Addr} {n c m d:Nat} (h:Bx W g a n c b m d):NoData W g:=nodata_cells h fun x hx=>by
 simp at hx
 rcases hx with rfl|rfl<;>exact softV_slice _ _ _
theorem nodata_boxed {W:World} {g:Nat} {t:TypeId} {v:Value} (h:Boxed W g t v) (hv:SoftV v):NoData W g:=nodata_cells h fun x hx=>by
 simp at hx
 rw[hx];exact hv
section
variable {W W' W2:World}
theorem Soft.trans (h:Soft W W') (g:Soft W' W2):Soft W W2:=by
 refine⟨Nat.le_trans h.size g.size,fun k hk=> ?_⟩
 rcases h.block k hk with e|e
 · rcases g.block k (Nat.lt_of_lt_of_le hk h.size)with e2|e2
   · exact .inl (e2.trans e)
   · exact .inr (e2.same e.symm)
 · exact .inr e
theorem below_soft {B:Nat} (h:Below B W W') (hB:W.heap.size≤B):Soft W W':=⟨h.size,fun k hk=>.inl (h.block k (by omega))⟩
theorem soft_grown {T:Option Nat} (h:W.grownBy W' T) (hT:∀t,T=some t→NoData W t):Soft W W':=by
 refine⟨h.size,fun k hk=> ?_⟩
 by_cases e:some k=T
 · exact .inr (hT k e.symm)
 · exact .inl (h.block k hk e)
theorem soft_put {l:Nat} {o:Obj} (o':Obj) (h:W.heap[l]?=some o) (ho:o.isCells=false):Soft W (W.putObj l o'):=by
 refine⟨by simp,fun k hk=> ?_⟩
 by_cases e:k=l
 · subst e;exact .inr (nodata_others h ho)
 · exact .inl (World.putObj_heap_other e)
theorem soft_set {p:Addr} (u:Value) (h:NoData W p.block):Soft W (W.setCell p u):=by
 refine⟨by simp[World.setCell],fun k hk=> ?_⟩
 by_cases e:k=p.block
 · subst e;exact .inr h
 · exact .inl (Below.heap_setCell _ _ _ _ e)
theorem soft_cell (h:Soft W W') {g off:Nat} {x:Value} (hc:W.cell? ⟨g,off,none⟩=some x) (hx:¬SoftV x):W'.cell? ⟨g,off,none⟩=some x:=by
 rcases h.block g (World.block_lt_of_cell? W _ hc)with e|e
 · exact(World.cell?_of_block (a:=⟨g,off,none⟩) e).trans hc
 · exact absurd (e _ _ hc) hx
theorem Sl.soft {a:Option Addr} {n:Nat} {l:List Int} (hs:Sl W a n l) (h:Soft W W'):Sl W' a n l:=by
 refine⟨hs.1,fun hn=> ?_⟩
 obtain⟨g,off,e,hc⟩:=hs.2 hn
 exact⟨g,off,e,fun j hj=>soft_cell h (hc j hj) fun k=>k.1 _ _ rfl⟩
theorem St.soft {a:Option Addr} {n:Nat} {l:List ByteArray} (hs:St W a n l) (h:Soft W W'):St W' a n l:=by
 refine⟨hs.1,fun hn=> ?_⟩
 obtain⟨g,off,e,hc⟩:=hs.2 hn
 exact⟨g,off,e,fun j hj=>soft_cell h (hc j hj) fun k=>k.2 _ rfl⟩
variable {a b:Option Addr} {n c m d:Nat} {l:List Int} {es:List ByteArray} {o:Option Ar}
theorem Vl.soft (h:Vl W a n b m l es) (k:Soft W W'):Vl W' a n b m l es:=⟨h.s.soft k,h.t.soft k,h.mm⟩
theorem Av.soft (h:Av W a n c b m d l es o) (k:Soft W W'):Av W' a n c b m d l es o:=⟨h.v.soft k,h.c,h.z,h.i⟩
end
def Gives2 (F:Fence) (n:Nat) (P:Program) (gf:Nat) (lb:Array Value) (En:Nat→Array Value→World→Prop) (N:Nat) (Kp:World→World→Prop) (w:World):Prop:=
 ∀(l:Nat) (J:Nat→World→Prop) (Jx:World→Prop) (W:World),Below w.heap.size w W→(∀k A A',J k A→Below A.heap.size A A'→J k A')→
  (∀k args W1,k<N→En k args W1→J k W1→YieldAt F (n-1) P l args W1 fun e W'=>(e=.returned (.bool true)∧J (k+1) W'∧Kp W1 W')∨(e=.returned (.bool false)∧Jx W'))→
  J 0 W→CallsIn F n P gf (#[.func (.yield l) #[] #[]]++lb) W fun e W'=>(∃v,e=.returned v)∧(J N W'∨Jx W')
structure Abs2 (S:Nat) (I:World→Prop):Prop where
 own:∀A A',I A→Below A.heap.size A A'→I A'
 put:∀A l o o',I A→S≤l→A.heap[l]?=some o→o.isCells=false→I (A.putObj l o')
structure PutR (w X W Y:World):Prop where
 out:∃l o o',w.heap.size≤l∧l<X.heap.size∧W.heap[l]?=some o∧o.isCells=false∧Y=W.putObj l o'
theorem PutR.soft {w X W Y:World} (h:PutR w X W Y):Soft W Y:=by
 obtain⟨l,o,o',_,_,h1,h2,rfl⟩:=h.out
 exact soft_put o' h1 h2
theorem PutR.block {w X W Y:World} (h:PutR w X W Y) {k:Nat} (hk:k<w.heap.size∨X.heap.size≤k):Y.heap[k]?=W.heap[k]?:=by
 obtain⟨l,o,o',h3,h4,h1,h2,rfl⟩:=h.out
 exact World.putObj_heap_other (by omega)
def RB (F:Fence) (n:Nat) (P:Program) (body:Code) (Kp:World→World→Prop) (I I2 Ix:World→Prop) (w X:World) (a:Act) (W:World):Prop:=
 Below X.heap.size X W∧∀Y,PutR w X W Y→I Y→body.wpIn F n P (RoundEnd Kp I2 Ix Y) a Y
variable {F:Fence} {n:Nat} {P:Program}
theorem range_gives2 {g:Operand} {ps:Array Tmp} {assign body:Code} {Q:Exit→Act→World→Prop} {a:Act} {w:World}
 (hro:F.round=none) (h1:1≤n) {gf:Nat} {lb:Array Value} (hg:a.eval g=.func (.func gf) #[] lb) (hFg:F.fn gf) (eg:∀args w,(callFunc gf args).run P w=.ok (.enter gf args) w)
 {En:Nat→Array Value→World→Prop} {N:Nat} {Kp:World→World→Prop} (hseq:Gives2 F (n-1) P gf lb En N Kp w)
 (hKt:∀X Y Z,Kp X Y→Kp Y Z→Kp X Z) (hKo:∀X Y,Below X.heap.size X Y→Kp X Y) (hKb:∀X l o o',w.heap.size≤l→X.heap[l]?=some o→o.isCells=false→Kp X (X.putObj l o')) (hps:∀k args W,En k args W→args.size=ps.size)
 (I:Nat→World→Prop) (Ix:World→Prop) (hI:∀k,Abs2 w.heap.size (I k)) (hIx:Abs2 w.heap.size Ix) (h0:I 0 w)
 (hround:∀(l k:Nat) (args:Array Value) (X:World),k<N→En k args X→I k X→
   assign.wpIn (F.inRound l) (n-1-1) P (Exit.then (RB (F.inRound l) (n-1-1) P body Kp (I k) (I (k+1)) Ix w X) (fun _ _ _=>False)) {tmps:=(ps.zip args).foldl (fun t (p,v)=>t.setIfInBounds p v) a.tmps,defers:=[]} X)
 (hdone:∀(D:Nat) (W:World),w.heap.size≤D→I N W→W.heap[D]?=some (.deferred (some []))→Q .normal {a with defers:={target:=.collected D,args:=#[]}::a.defers} W)
 (hstop:∀(D:Nat) (W:World),w.heap.size≤D→Ix W→W.heap[D]?=some (.deferred (some []))→Code.ret.wpIn F n P Q {a with defers:={target:=.collected D,args:=#[]}::a.defers} W):
 (Code.rangeFunc g ps assign body).wpIn F n P Q a w:=by
 refine wpIn_rangeFunc fun fn hfn=> ?_
 rw[hro]
 obtain⟨S,hS⟩:∃S,w.heap.size=S:=⟨_,rfl⟩
 let rec_:LoopState→Option Code→Loop:=fun st pe=>{state:=st,pending:=pe,fn:=fn,tmps:=a.tmps,params:=ps,assign:=assign,body:=body,defers:=w.heap.size}
 obtain⟨R,hR⟩:∃R:LoopState→Option Code→Loop,R=rec_:=⟨_,rfl⟩
 obtain⟨V,hV⟩:∃V,(w.alloc (.deferred (some []))).alloc (.loop (R .ready none))=V:=⟨_,rfl⟩
 have dV:V.heap[S]?=some (.deferred (some [])):=by
  rw[←hV,←hS]
  exact(Below.heap_alloc _ _ _ (by simp)).trans (World.alloc_heap_new w _)
 have lV:V.heap[S+1]?=some (.loop (R .ready none)):=by
  rw[←hV,←hS]
  have:=World.alloc_heap_new (w.alloc (.deferred (some []))) (.loop (R .ready none))
  rwa [World.size_alloc]at this
 have bV:Below w.heap.size w V:=by
  rw[←hV]
  exact((Below.refl _ w).alloc (Nat.le_refl _) _).alloc (by simp) _
 have iV:I 0 V:=(hI 0).own _ _ h0 bV
 refine⟨S+1,[{target:=.collected S,args:=#[]}],V,{target:=.fn (.func gf) lb,args:=#[.func (.yield (S+1)) #[] #[]]},V,gf,#[.func (.yield (S+1)) #[] #[]]++lb,V,?_,?_,?_,?_,fun _=>h1,?_⟩
 · rw[←hV,←hS,hR]
   exact run_enterLoop_outer _ _ _ _ _
 · simp only[resolve,hg]
   simp[go_sem]
 · intro f' hf'
   simp[Target.leads]at hf'
   subst hf'
   exact hFg
 · simp[invoke,go_sem,eg]
 have gone:∀{A A':World} {i:Nat} {o:Obj},Below A.heap.size A A'→A.heap[i]?=some o→A'.heap[i]?=some o:=fun hb h=>(hb.block _ (Array.getElem?_eq_some_iff.1 h).1).trans h
 refine(hseq (S+1) (fun k W=>I k W∧W.heap[S]?=some (.deferred (some []))∧W.heap[S+1]?=some (.loop (R .ready none)))
  (fun W=>Ix W∧W.heap[S]?=some (.deferred (some []))∧W.heap[S+1]?=some (.loop (R .done (some .ret)))) V bV
  (fun k A A' h hg=>⟨(hI k).own _ _ h.1 hg,gone hg h.2.1,gone hg h.2.2⟩) ?_ ⟨iV,dV,lV⟩).mono ?_
 · rintro k args X hk hE ⟨iX,dX,lX⟩
   have hlt:S+1<X.heap.size:=(Array.getElem?_eq_some_iff.1 lX).1
   have hy:=run_yield (P:=P) (args:=args) lX (by rw[hR];exact hps k _ _ hE)
   rw[hR]at hy
   refine⟨fn,_,assign,body,hy,roundIn_of_wpIn hfn (wpIn_mono (hround _ k args X hk hE iX) ?_)⟩
   rintro e a1 W1 hp
   cases e with
   |normal=>
    obtain⟨hb1,hp⟩:=hp
    have lW:=gone hb1 lX
    obtain⟨Y,hY⟩:∃Y,W1.putObj (S+1) (.loop {R .ready none with state:=.busy})=Y:=⟨_,rfl⟩
    have lY:Y.heap[S+1]?=some (.loop {R .ready none with state:=.busy}):=by rw[←hY];exact World.putObj_heap_same (Array.getElem?_eq_some_iff.1 lW).1
    have dY:Y.heap[S]?=some (.deferred (some [])):=by rw[←hY];exact(World.putObj_heap_other (by omega)).trans (gone hb1 dX)
    have iY:I k Y:=by rw[←hY];exact(hI k).put _ _ _ _ ((hI k).own _ _ iX hb1) (by omega) lW rfl
    have kY:Kp X Y:=hKt _ _ _ (hKo _ _ hb1) (by rw[←hY];exact hKb _ _ _ _ (by omega) lW rfl)
    refine⟨Y,?_,wpIn_mono (hp Y ⟨_,_,_,by omega,hlt,lW,rfl,hY.symm⟩ iY) ?_⟩
    · rw[←hY];exact run_beginRound lW (by rw[hR])
    have fin:∀(jump:Option Code) (Z:World),KeepsOthers Y Z→(Instr.endRound (S+1) jump).run P Z=.ok (.bool jump.isNone) (Z.putObj (S+1) (.loop (R (if jump.isNone then .ready else .done) jump)))∧
     Z.heap[S+1]?=some (.loop {R .ready none with state:=.busy})∧(Z.putObj (S+1) (.loop (R (if jump.isNone then .ready else .done) jump))).heap[S]?=some (.deferred (some []))∧
     (Z.putObj (S+1) (.loop (R (if jump.isNone then .ready else .done) jump))).heap[S+1]?=some (.loop (R (if jump.isNone then .ready else .done) jump)):=fun jump Z hZ=>by
     have lZ:=hZ.same _ _ lY rfl
     have e:=run_endRound (P:=P) jump lZ
     rw[hR]at e ⊢
     rw[hR]at lZ
     exact⟨e,lZ,(World.putObj_heap_other (by omega)).trans (hZ.same _ _ dY rfl),World.putObj_heap_same (Array.getElem?_eq_some_iff.1 lZ).1⟩
    rintro e a3 Z hp
    cases e with
    |normal=>
     obtain⟨h1,h2,h3⟩:=hp
     obtain⟨hr,lZ,dU,lU⟩:=fin none Z h1
     exact⟨_,_,hr,.inl ⟨rfl,⟨(hI (k+1)).put _ _ _ _ h3 (by omega) lZ rfl,dU,lU⟩,hKt _ _ _ (hKt _ _ _ kY h2) (hKb _ _ _ _ (by omega) lZ rfl)⟩⟩
    |ret=>
     obtain⟨h1,h3⟩:=hp
     obtain⟨hr,lZ,dU,lU⟩:=fin (some .ret) Z h1
     exact⟨_,_,hr,.inr ⟨rfl,hIx.put _ _ _ _ h3 (by omega) lZ rfl,dU,lU⟩⟩
    |exit id=>exact hp.elim
    |goto t=>exact hp.elim
    |panic ch=>exact hp.elim
    |outgrown=>exact hp.elim
   |ret=>exact hp.elim
   |exit id=>exact hp.elim
   |goto t=>exact hp.elim
   |panic ch=>exact hp.elim
   |outgrown=>exact hp.elim
 · rintro e Z ⟨⟨v,rfl⟩,(⟨iZ,dZ,lZ⟩|⟨iZ,dZ,lZ⟩)⟩
   · have e:=run_endLoop (P:=P) lZ (by rw[hR];simp[rec_])
     rw[hR]at e
     exact⟨none,_,e,hdone S _ (by omega) ((hI N).put _ _ _ _ iZ (by omega) lZ rfl) ((World.putObj_heap_other (by omega)).trans dZ)⟩
   · have e:=run_endLoop (P:=P) lZ (by rw[hR];simp[rec_])
     rw[hR]at e
     exact⟨some .ret,_,e,hstop S _ (by omega) (hIx.put _ _ _ _ iZ (by omega) lZ rfl) ((World.putObj_heap_other (by omega)).trans dZ)⟩
end Go.Proofs.YtbijncndjlmmdaaGreatDoor
namespace Go.Proofs.YtbijncndjlmmdaaGreatDoor
set_option linter.unusedVariables false
set_option linter.unusedSimpArgs false
open Go.RowKit
theorem grown_no {W W':World} {T:Option Nat} (h:Below W.heap.size W W'):W.grownBy W' T:=⟨h.os,h.tape,h.output,h.size,fun i hi _=>h.block i hi⟩
structure Rc where
 a:Option Addr
 n:Nat
 c:Nat
 b:Option Addr
 m:Nat
 d:Nat
def Rc.vs (r:Rc):List Value:=[.slice r.a r.n r.c,.slice r.b r.m r.d]
def rcs (rs:List Rc):List Value:=rs.flatMap Rc.vs
theorem rcs_snoc (rs:List Rc) (r:Rc):rcs (rs++[r])=rcs rs++r.vs:=by unfold rcs;simp
theorem rcs_soft:∀{rs:List Rc} {x:Value},x∈rcs rs→SoftV x
 |r::rs,x,h=>by
  rcases List.mem_append.1 (show x∈r.vs++rcs rs from h)with h|h
  · rcases List.mem_cons.1 h with rfl|h
    · exact softV_slice _ _ _
    · rw[List.mem_singleton]at h;rw[h];exact softV_slice _ _ _
  · exact rcs_soft h
theorem rcs_at:∀{rs:List Rc} {j:Nat} (h:j<rs.length),(rcs rs)[j*2]?=some (.slice rs[j].a rs[j].n rs[j].c)∧(rcs rs)[j*2+1]?=some (.slice rs[j].b rs[j].m rs[j].d)
 |r::rs,0,_=>⟨rfl,rfl⟩
 |r::rs,j+1,h=>by
  have:=rcs_at (rs:=rs) (j:=j) (by simpa using h)
  have e:∀k,(rcs (r::rs))[k+2]?=(rcs rs)[k]?:=fun k=>rfl
  refine⟨?_,?_⟩
  · rw[show(j+1)*2=j*2+2 by omega,e];exact this.1
  · rw[show(j+1)*2+1=j*2+1+2 by omega,e];exact this.2
theorem two_soft {a b:Option Addr} {n c m d:Nat}:∀x∈([.slice a n c,.slice b m d]:List Value),SoftV x:=by
 intro x h
 rcases List.mem_cons.1 h with rfl|h
 · exact softV_slice _ _ _
 · rw[List.mem_singleton]at h;rw[h];exact softV_slice _ _ _
theorem zval_soft:∀x∈(Value.agg #[.slice none 0 0,.slice none 0 0]).cells.toList,SoftV x:=two_soft
def VlR (W:World) (r:Rc) (q:Ar):Prop:=Vl W r.a r.n r.b r.m q.1 (q.2.map S)
structure Lr (W:World) (B:Nat) (v:Value) (rs:List Rc) (qs:List Ar):Prop where
 own:W.ownsRow B 25 2 v rs.length (rcs rs)
 soft:∀k,v.ownBlock=some k→NoData W k
 len:rs.length=qs.length
 at_:∀j (h:j<rs.length) (h':j<qs.length),VlR W rs[j] qs[j]
section
variable {W W':World} {B:Nat} {v:Value} {rs:List Rc} {qs:List Ar}
theorem Lr.nil (W:World) (B:Nat):Lr W B (.slice none 0 0) [] []:=⟨World.ownsRow_nil _ _ _ _,fun k h=>(by cases h),rfl,fun j h=>absurd h (Nat.not_lt_zero _)⟩
theorem Lr.kept (h:Lr W B v rs qs) {T:Option Nat} (hg:W.grownBy W' T) (hT:∀t,T=some t→NoData W t) (hne:v.ownBlock=none∨v.ownBlock≠T):Lr W' B v rs qs:=by
 refine⟨h.own.kept hg hne,fun k hk=> ?_,h.len,fun j a b=>(h.at_ j a b).soft (soft_grown hg hT)⟩
 refine(h.soft k hk).same (hg.block k (h.own.lt k hk).2 fun e=> ?_)
 rcases hne with h0|h0
 · rw[h0]at hk;cases hk
 · exact h0 (hk.trans e)
theorem Lr.below (h:Lr W B v rs qs) (hb:Below W.heap.size W W'):Lr W' B v rs qs:=h.kept (T:=none) (grown_no hb) (fun t e=>by cases e) (by cases v.ownBlock<;>simp)
theorem Lr.put (h:Lr W B v rs qs) {l:Nat} {o:Obj} (o':Obj) (hl:W.heap[l]?=some o) (ho:o.isCells=false):Lr (W.putObj l o') B v rs qs:=by
 refine h.kept (T:=some l) (grownBy_putObj' W l o') (fun t e=>by injection e with e;subst e;exact nodata_others hl ho) ?_
 rcases h.own.2 with⟨rfl,_⟩|⟨g,cap,cur,rfl,_,hgb,_⟩
 · exact .inl rfl
 · refine .inr fun e'=> ?_
   obtain rfl:g=l:=by simpa[Value.ownBlock]using e'
   rw[hgb]at hl;cases hl;cases ho
theorem Lr.form (h:Lr W B v rs qs):∃a c,v=.slice a rs.length c∧(a=none∨∃g,a=some ⟨g,0,none⟩)∧rs.length≤c:=by
 rcases h.own.2 with⟨rfl,h0⟩|⟨g,cap,cur,rfl,_,_,h2,_⟩
 · exact⟨none,0,by rw[h0],.inl rfl,by omega⟩
 · exact⟨_,cap,rfl,.inr ⟨g,rfl⟩,h2⟩
theorem Lr.cells (h:Lr W B v rs qs) {a:Option Addr} {c:Nat} (hv:v=.slice a rs.length c) (h0:0<rs.length):∃g,a=some ⟨g,0,none⟩∧B≤g∧∀j (hj:j<rs.length),W.cell? ⟨g,j*2,none⟩=some (.slice rs[j].a rs[j].n rs[j].c)∧W.cell? ⟨g,j*2+1,none⟩=some (.slice rs[j].b rs[j].m rs[j].d):=by
 subst hv
 rcases h.own.2 with⟨e,h1⟩|⟨g,cap,cur,e,hB,_⟩
 · omega
 · injection e with e1 e2 e3
   subst e1 e3
   refine⟨g,rfl,hB,fun j hj=> ?_⟩
   have k:=h.own.cellAt
   have:=rcs_at hj
   exact⟨(k (j*2) (by omega)).trans this.1,(k (j*2+1) (by omega)).trans this.2⟩
end
theorem softV_zero {cs:Array Value} {n:Nat} (h:∀x∈cs.toList,SoftV x):∀x∈(Builtin.zeroCells cs n).toList,SoftV x:=by
 intro x hx
 rw[Array.mem_toList_iff]at hx
 unfold Builtin.zeroCells at hx
 obtain⟨j,hj,rfl⟩:=Array.mem_map.1 hx
 rw[Array.mem_range]at hj
 have h0:0<cs.size:=Nat.pos_of_ne_zero fun e0=>by rw[e0,Nat.mul_zero]at hj;omega
 have hlt:=Nat.mod_lt j h0
 rw[getElem!_pos cs _ hlt]
 exact h _ (by rw[Array.mem_toList_iff];exact Array.getElem_mem hlt)
section
variable {P:Program} (w:World)
theorem run_append_soft (base:Nat) (t ty e:TypeId) (i:TypeInfo) (z:Value) (size bytes:Nat) (ht:P.underlying t=some (.slice e)) (hi:P.info? e=some i) (hz:i.zero=some z)
 (hsize:i.size=size) (hby:i.bytes=bytes) (hzs:z.cells.size=size) (hsz:0<size)
 (v:Value) (n:Nat) (xs:List Value) (hown:w.ownsRow base e size v n xs) (hso:∀k,v.ownBlock=some k→NoData w k) (hxs:∀x∈xs,SoftV x) (hzc:∀x∈z.cells.toList,SoftV x)
 (a:Addr) (m c:Nat) (news:List Value) (hns:∀x∈news,SoftV x) (hm:0<m) (hl:news.length=m*size) (hnews:∀j u,news[j]?=some u→w.cell? (a.add j)=some u) (h1:∀u∈news,u.oneCell'=true)
 (h63:n+m≤maxLen) (hbytes:(n+m)*bytes≤140737488355328) (hbase:base≤w.heap.size):
 ∃v' w',(Builtin.append_ #[t,t] ty #[v,.slice (some a) m c]).run P w=.ok v' w'∧w'.ownsRow base e size v' (n+m) (xs++news)∧w.grownBy w' v.ownBlock∧∀k,v'.ownBlock=some k→NoData w' k:=by
 obtain⟨v',w',hr,ho,hg,_⟩:=run_append_own (P:=P) w base t ty e i z size bytes ht hi hz hsize hby hzs hsz v n xs hown a m c news hl hnews h1 h63 hbytes hbase
 refine⟨v',w',hr,ho,hg,?_⟩
 subst hsize
 subst hby
 have hsmall:n+m≤9223372036854775807:=by simp only[maxLen]at h63;omega
 rcases hown.2 with⟨rfl,rfl⟩|⟨g,cap,cur,rfl,hbg,hgc,hnc,hcm,hcs,htake⟩
 · have h2:=run_append_nil (P:=P) w t ty e i z ht hi hz a m c news hl hnews (by omega) (by omega) (by have hb:=hbytes;simp only[Nat.zero_add]at hb;omega)
   rw[h2]at hr
   injection hr with e1 e2
   subst e1 e2
   intro k hk
   injection hk with hk
   subst hk
   refine nodata_cells (heap_alloc_new w.drew _) fun x hx=> ?_
   rw[Array.toList_append,List.mem_append]at hx
   rcases hx with hx|hx
   · exact hns x hx
   · exact softV_zero hzc x hx
 · by_cases hroom:n+m≤cap
   · have hfit:n*i.size+news.length≤cur.size:=by rw[hl,hcs,←Nat.add_mul];exact Nat.mul_le_mul_right _ hroom
     have h2:=run_append_room (P:=P) w t ty e i ht hi g n cap cur hgc a m c news hl hnews h1 hroom hfit
     rw[h2]at hr
     injection hr with e1 e2
     subst e1 e2
     intro k hk
     injection hk with hk
     subst hk
     have hold:∀x∈cur.toList,SoftV x:=fun x hx=>by
      obtain⟨j,hj,rfl⟩:=List.getElem_of_mem hx
      refine hso g rfl j _ ?_
      rw[cell_of_row _ _ j _ _ _ hgc]
      rw[Array.getElem?_eq_getElem (by simpa using hj)]
      rfl
     refine nodata_cells (setRow_heap w g cur _ e _ hgc) fun x hx=> ?_
     simp only[List.mem_append]at hx
     rcases hx with(hx|hx)|hx
     · exact hold x (List.mem_of_mem_take hx)
     · exact hns x hx
     · exact hold x (List.mem_of_mem_drop hx)
   · have holds:∀j u,xs[j]?=some u→w.cell? ((⟨g,0,none⟩:Addr).add j)=some u:=hown.cells (g:=g) rfl
     have h2:=run_append_grow (P:=P) w t ty e i z ht hi hz ⟨g,0,none⟩ n cap xs hown.1 holds a m c news hl hnews (by omega) (by omega) (growslice_fits (by omega) hbytes)
     rw[h2]at hr
     injection hr with e1 e2
     subst e1 e2
     intro k hk
     injection hk with hk
     subst hk
     refine nodata_cells (heap_alloc_new w.drew _) fun x hx=> ?_
     rw[Array.toList_append,Array.toList_append,List.mem_append,List.mem_append]at hx
     rcases hx with(hx|hx)|hx
     · exact hxs x hx
     · exact hns x hx
     · exact softV_zero hzc x hx
end
end Go.Proofs.YtbijncndjlmmdaaGreatDoor
namespace Go.Proofs.YtbijncndjlmmdaaGreatDoor
set_option linter.unusedVariables false
set_option linter.unusedSimpArgs false
def runL {α β:Type} (f:α→Option β×Int):List α→Option (List β)×Int
 |[]=>(some [],0)
 |x::r=>match f x with
  |(some y,_)=>match runL f r with
   |(some ys,_)=>(some (y::ys),0)
   |(none,k)=>(none,k)
  |(none,k)=>(none,k)
section
variable {α β:Type} {f:α→Option β×Int}
theorem runL_cons {x:α} {r:List α} {y:β} {c:Int} (h:f x=(some y,c)):runL f (x::r)=match runL f r with
 |(some ys,_)=>(some (y::ys),0)
 |(none,k)=>(none,k):=by
 show(match f x with
  |(some y,_)=>match runL f r with
   |(some ys,_)=>(some (y::ys),0)
   |(none,k)=>(none,k)
  |(none,k)=>(none,k))=_
 rw[h]
theorem runL_stop {x:α} {r:List α} {k:Int} (h:f x=(none,k)):runL f (x::r)=(none,k):=by
 show(match f x with
  |(some y,_)=>match runL f r with
   |(some ys,_)=>(some (y::ys),0)
   |(none,k)=>(none,k)
  |(none,k)=>(none,k))=_
 rw[h]
theorem runL_zero {l:List α} {ys:List β} {e:Int} (h:runL f l=(some ys,e)):e=0:=by
 cases l with
 |nil=>cases h;rfl
 |cons x r=>
  obtain⟨o,c,ho⟩:∃o c,f x=(o,c):=⟨_,_,rfl⟩
  cases o with
  |none=>rw[runL_stop ho]at h;cases h
  |some y=>
   rw[runL_cons ho]at h
   obtain⟨p,d,hp⟩:∃p d,runL f r=(p,d):=⟨_,_,rfl⟩
   rw[hp]at h
   cases p with
   |none=>cases h
   |some z=>cases h;rfl
theorem runL_app {a b:List α} {ys:List β} {e:Int} (h:runL f a=(some ys,e)):runL f (a++b)=match runL f b with
 |(some zs,_)=>(some (ys++zs),0)
 |(none,k)=>(none,k):=by
 induction a generalizing ys e with
 |nil=>
  cases h
  rw[List.nil_append]
  obtain⟨p,d,hp⟩:∃p d,runL f b=(p,d):=⟨_,_,rfl⟩
  rw[hp]
  cases p with
  |none=>rfl
  |some z=>rw[runL_zero hp];rfl
 |cons x r ih=>
  obtain⟨o,c,ho⟩:∃o c,f x=(o,c):=⟨_,_,rfl⟩
  cases o with
  |none=>rw[runL_stop ho]at h;cases h
  |some y=>
   rw[runL_cons ho]at h
   obtain⟨p,d,hp⟩:∃p d,runL f r=(p,d):=⟨_,_,rfl⟩
   rw[hp]at h
   cases p with
   |none=>cases h
   |some z=>
    cases h
    rw[List.cons_append,runL_cons ho,ih hp]
    obtain⟨p2,d2,hp2⟩:∃p d,runL f b=(p,d):=⟨_,_,rfl⟩
    rw[hp2]
    cases p2<;>rfl
theorem runL_snoc {a:List α} {x:α} {ys:List β} {y:β} {e c:Int} (h:runL f a=(some ys,e)) (hx:f x=(some y,c)):runL f (a++[x])=(some (ys++[y]),0):=by
 rw[runL_app h,runL_cons hx];rfl
theorem runL_bad {a b:List α} {x:α} {ys:List β} {k e:Int} (h:runL f a=(some ys,e)) (hx:f x=(none,k)):runL f (a++x::b)=(none,k):=by
 rw[runL_app h,runL_stop hx]
theorem runL_some {l:List α} {ys:List β} {e:Int} (h:runL f l=(some ys,e)):ys.length=l.length∧∀j (hj:j<l.length) (hk:j<ys.length),∃c,f l[j]=(some ys[j],c):=by
 induction l generalizing ys e with
 |nil=>cases h;exact⟨rfl,fun j hj=>absurd hj (Nat.not_lt_zero _)⟩
 |cons x r ih=>
  obtain⟨o,c,ho⟩:∃o c,f x=(o,c):=⟨_,_,rfl⟩
  cases o with
  |none=>rw[runL_stop ho]at h;cases h
  |some y=>
   rw[runL_cons ho]at h
   obtain⟨p,d,hp⟩:∃p d,runL f r=(p,d):=⟨_,_,rfl⟩
   rw[hp]at h
   cases p with
   |none=>cases h
   |some z=>
    cases h
    obtain⟨h1,h2⟩:=ih hp
    refine⟨by simp[h1],?_⟩
    intro j hj hk
    cases j with
    |zero=>exact⟨c,ho⟩
    |succ j=>exact h2 j (by simpa using hj) (by simpa using hk)
theorem runL_of {l:List α} {g:α→β} (h:∀x∈l,f x=(some (g x),0)):runL f l=(some (l.map g),0):=by
 induction l with
 |nil=>rfl
 |cons x r ih=>rw[runL_cons (h x (List.mem_cons_self ..)),ih fun y hy=>h y (List.mem_cons_of_mem _ hy)];rfl
theorem runL_no {l:List α} {k:Int} (h:runL f l=(none,k)):∃x∈l,f x=(none,k):=by
 induction l with
 |nil=>cases h
 |cons x r ih=>
  obtain⟨o,c,ho⟩:∃o c,f x=(o,c):=⟨_,_,rfl⟩
  cases o with
  |none=>rw[runL_stop ho]at h;cases h;exact⟨x,List.mem_cons_self ..,ho⟩
  |some y=>
   rw[runL_cons ho]at h
   obtain⟨p,d,hp⟩:∃p d,runL f r=(p,d):=⟨_,_,rfl⟩
   rw[hp]at h
   cases p with
   |none=>
    cases h
    obtain⟨x',h1,h2⟩:=ih hp
    exact⟨x',List.mem_cons_of_mem _ h1,h2⟩
   |some z=>cases h
theorem runL_map {γ:Type} {g:γ→α} {l:List γ}:runL f (l.map g)=runL (fun x=>f (g x)) l:=by
 induction l with
 |nil=>rfl
 |cons x r ih=>
  show(match f (g x)with
   |(some y,_)=>match runL f (r.map g)with
    |(some ys,_)=>(some (y::ys),0)
    |(none,k)=>(none,k)
   |(none,k)=>(none,k))=_
  rw[ih];rfl
end
def stL (g:Ar→Ar→Option Ar×Int):Ar→List Ar→Option (List Ar)×Int
 |a,[]=>(some [a],0)
 |a,x::r=>match g a x with
  |(some y,_)=>match stL g y r with
   |(some ys,_)=>(some (a::ys),0)
   |(none,k)=>(none,k)
  |(none,k)=>(none,k)
def rdL (g:Ar→Ar→Option Ar×Int):Ar→List Ar→Option Ar×Int
 |a,[]=>(some a,0)
 |a,x::r=>match g a x with
  |(some y,_)=>rdL g y r
  |(none,k)=>(none,k)
section
variable {g:Ar→Ar→Option Ar×Int}
theorem stL_cons {a x y:Ar} {c:Int} {r:List Ar} (h:g a x=(some y,c)):stL g a (x::r)=match stL g y r with
 |(some ys,_)=>(some (a::ys),0)
 |(none,k)=>(none,k):=by
 show(match g a x with
  |(some y,_)=>match stL g y r with
   |(some ys,_)=>(some (a::ys),0)
   |(none,k)=>(none,k)
  |(none,k)=>(none,k))=_
 rw[h]
theorem stL_stop {a x:Ar} {k:Int} {r:List Ar} (h:g a x=(none,k)):stL g a (x::r)=(none,k):=by
 show(match g a x with
  |(some y,_)=>match stL g y r with
   |(some ys,_)=>(some (a::ys),0)
   |(none,k)=>(none,k)
  |(none,k)=>(none,k))=_
 rw[h]
theorem rdL_cons {a x y:Ar} {c:Int} {r:List Ar} (h:g a x=(some y,c)):rdL g a (x::r)=rdL g y r:=by
 show(match g a x with
  |(some y,_)=>rdL g y r
  |(none,k)=>(none,k))=_
 rw[h]
theorem rdL_stop {a x:Ar} {k:Int} {r:List Ar} (h:g a x=(none,k)):rdL g a (x::r)=(none,k):=by
 show(match g a x with
  |(some y,_)=>rdL g y r
  |(none,k)=>(none,k))=_
 rw[h]
theorem st_rd {a:Ar} {l:List Ar}:(∃ys z,stL g a l=(some (ys++[z]),0)∧rdL g a l=(some z,0)∧ys.length=l.length∧(ys++[z]).head?=some a)∨(∃k,stL g a l=(none,k)∧rdL g a l=(none,k)):=by
 induction l generalizing a with
 |nil=>exact .inl ⟨[],a,rfl,rfl,rfl,rfl⟩
 |cons x r ih=>
  obtain⟨o,c,ho⟩:∃o c,g a x=(o,c):=⟨_,_,rfl⟩
  cases o with
  |none=>exact .inr ⟨c,stL_stop ho,rdL_stop ho⟩
  |some y=>
   rw[stL_cons ho,rdL_cons ho]
   rcases @ih y with⟨ys,z,h1,h2,h3,h4⟩|⟨k,h1,h2⟩
   · exact .inl ⟨a::ys,z,by rw[h1];rfl,h2,by simp[h3],rfl⟩
   · exact .inr ⟨k,by rw[h1],h2⟩
theorem stL_snoc {a y x:Ar} {ys:List Ar} {z:Ar} {e c:Int} {l:List Ar} (h:stL g a l=(some (ys++[z]),e)) (hx:g z x=(some y,c)):stL g a (l++[x])=(some (ys++[z]++[y]),0):=by
 induction l generalizing a ys e with
 |nil=>
  have h':(some [a],(0:Int))=(some (ys++[z]),e):=h
  have e1:ys++[z]=[a]:=(Option.some.inj (Prod.mk.inj h').1).symm
  have e2:ys=[]:=List.length_eq_zero_iff.1 (by have:=congrArg List.length e1;simpa using this)
  subst e2
  injection e1 with e1 _
  subst e1
  rw[List.nil_append,stL_cons hx];rfl
 |cons x' r ih=>
  obtain⟨o,d,ho⟩:∃o c,g a x'=(o,c):=⟨_,_,rfl⟩
  cases o with
  |none=>rw[stL_stop ho]at h;cases h
  |some y'=>
   rw[stL_cons ho]at h
   rw[List.cons_append,stL_cons ho]
   rcases @st_rd g y' r with⟨ys',z',h1,_,_,_⟩|⟨k,h1,_⟩
   · rw[h1]at h
     have h':(some (a::(ys'++[z'])),(0:Int))=(some (ys++[z]),e):=h
     have e1:a::(ys'++[z'])=ys++[z]:=Option.some.inj (Prod.mk.inj h').1
     obtain⟨e2,e3⟩:=List.append_inj' (show(a::ys')++[z']=ys++[z]from e1) rfl
     injection e3 with e3 _
     subst e3
     subst e2
     rw[ih h1];rfl
   · rw[h1]at h;cases h
theorem stL_bad {a x:Ar} {ys:List Ar} {z:Ar} {e k:Int} {l m:List Ar} (h:stL g a l=(some (ys++[z]),e)) (hx:g z x=(none,k)):stL g a (l++x::m)=(none,k):=by
 induction l generalizing a ys e with
 |nil=>
  have h':(some [a],(0:Int))=(some (ys++[z]),e):=h
  have e1:ys++[z]=[a]:=(Option.some.inj (Prod.mk.inj h').1).symm
  have e2:ys=[]:=List.length_eq_zero_iff.1 (by have:=congrArg List.length e1;simpa using this)
  subst e2
  injection e1 with e1 _
  subst e1
  rw[List.nil_append,stL_stop hx]
 |cons x' r ih=>
  obtain⟨o,d,ho⟩:∃o c,g a x'=(o,c):=⟨_,_,rfl⟩
  cases o with
  |none=>rw[stL_stop ho]at h;cases h
  |some y'=>
   rw[stL_cons ho]at h
   rw[List.cons_append,stL_cons ho]
   rcases @st_rd g y' r with⟨ys',z',h1,_,_,_⟩|⟨k,h1,_⟩
   · rw[h1]at h
     have h':(some (a::(ys'++[z'])),(0:Int))=(some (ys++[z]),e):=h
     have e1:a::(ys'++[z'])=ys++[z]:=Option.some.inj (Prod.mk.inj h').1
     obtain⟨e2,e3⟩:=List.append_inj' (show(a::ys')++[z']=ys++[z]from e1) rfl
     injection e3 with e3 _
     subst e3
     subst e2
     rw[ih h1]
   · rw[h1]at h;cases h
end
def joA (l:List Ar):Option Ar×Int:=
 match l with
 |[]=>(none,5)
 |q::r=>if(q::r).all (fun x=>decide (x.1=q.1))=false then(none,4)else
  if szE (((q::r).length:Int)::q.1)≠0 then(none,szE (((q::r).length:Int)::q.1))else(some (((q::r).length:Int)::q.1,(q::r).flatMap (·.2)),0)
def joR:Option (List Ar)×Int→Option Ar×Int
 |(some l,_)=>joA l
 |(none,k)=>(none,k)
def iT (q:Ar):List Ar:=(List.range (nI q.1)).map fun i=>itA q.1 q.2 i
def eaA (f:Ar→Option Ar×Int):Option Ar→Option Ar×Int
 |none=>(none,1)
 |some q=>if q.1=[]then f q else if nI q.1=0 then(some q,0)else joR (runL f (iT q))
def rdA (g:Ar→Ar→Option Ar×Int) (u:Option Ar):Option Ar→Option Ar×Int
 |none=>(none,1)
 |some q=>if q.1=[]then(some q,0)else if nI q.1=0 then(match u with
   |some v=>if q.1.length=1 then(some v,0)else(none,5)
   |none=>(none,5))else rdL g (itA q.1 q.2 0) (iT q).tail
def scA (g:Ar→Ar→Option Ar×Int):Option Ar→Option Ar×Int
 |none=>(none,1)
 |some q=>if q.1=[]∨nI q.1=0 then(some q,0)else joR (stL g (itA q.1 q.2 0) (iT q).tail)
def prL (g:Ar→Ar→Option Ar×Int) (a:Ar) (l:List Ar):Option (List Ar)×Int:=
 match runL (fun p:Ar×Ar=>g p.1 p.2) (l.zip (a::l))with
 |(some ys,_)=>(some (a::ys),0)
 |(none,k)=>(none,k)
def prA (g:Ar→Ar→Option Ar×Int):Option Ar→Option Ar×Int
 |none=>(none,1)
 |some q=>if q.1=[]∨nI q.1=0 then(some q,0)else joR (prL g (itA q.1 q.2 0) (iT q).tail)
def paA (g:Ar→Ar→Option Ar×Int) (q r:Ar) (n:Nat) (which:Ar):Option Ar×Int:=
 if n=0 then(some which,0)else joR (runL (fun i=>g (itA q.1 q.2 i) (itA r.1 r.2 i)) (List.range n))
def boA (g:Ar→Ar→Option Ar×Int):Option Ar→Option Ar→Option Ar×Int
 |some q,some r=>if q.1=[]∧r.1=[]then g q r else if q.1=[]then paA g q r (nI r.1) r else if r.1≠[]∧nI q.1≠nI r.1 then(none,4)else paA g q r (nI q.1) q
 |_,_=>(none,1)
def alA (g:Ar→Ar→Option Ar×Int) (r v:Ar):Option Ar×Int:=if r.1=[]then g v r else if nI r.1=0 then(some r,0)else joR (runL (g v) (iT r))
end Go.Proofs.YtbijncndjlmmdaaGreatDoor

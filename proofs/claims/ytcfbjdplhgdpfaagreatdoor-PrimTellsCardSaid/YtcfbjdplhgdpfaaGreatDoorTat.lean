import Derived.Test.YtcfbjdplhgdpfaaGreatDoorTas
import Derived.RangeFuncBox
import Derived.RangeFuncCalls
import Derived.Shelf.RegionOpen
import Derived.OwnWalkIn
import Derived.LoopNIn
import Derived.LoopIn
set_option maxHeartbeats 6400000
set_option maxRecDepth 100000
namespace Go.Proofs.YtcfbjdplhgdpfaaGreatDoor
set_option linter.unusedVariables false
set_option linter.unusedSimpArgs false
abbrev xS1:=@Go.callsIn_wide
abbrev xP1:=@Go.World.putObj_heap_other
abbrev xM1:=@beq_false_of_ne
abbrev yP0:=@Go.World.size_alloc
abbrev zU:=@Go.RowKit.Below.drew
section
open Go.RowKit
theorem yB8 {k:Nat} {ps:List (Int×Int)} {q:Int×Int} {l:List Int} {z:Int} (h:spL k ps=(some l,0)) (hq:dyI k q.1 q.2=(some z,0)):spL k (ps++[q])=(some (l++[z]),0):=by
 induction ps generalizing l with
 |nil=>
  cases h
  show spL k [q]=_;unfold spL;rw[hq];rfl
 |cons p r ih=>
  obtain⟨o,c,hd⟩:∃o c,dyI k p.1 p.2=(o,c):=⟨_,_,rfl⟩
  obtain⟨o',c',hs⟩:∃o c,spL k r=(o,c):=⟨_,_,rfl⟩
  unfold spL at h;rw[hd]at h;cases o with
  |none=>simp at h
  |some x=>
   simp only[hs]at h;cases o' with
   |none=>simp at h
   |some l'=>
    simp only[xK1,Option.some.injEq,and_true]at h;subst h;have hc:=(zFd hs).1;subst hc;rw[zW1];unfold spL;rw[hd,ih hs];rfl
theorem yC8 {k:Nat} {ps r:List (Int×Int)} {q:Int×Int} {l:List Int} {e:Int} (h:spL k ps=(some l,0)) (hq:dyI k q.1 q.2=(none,e)):spL k (ps++q::r)=(none,e):=by
 induction ps generalizing l with
 |nil=>
  show spL k (q::r)=_;unfold spL;rw[hq]
 |cons p t ih=>
  obtain⟨o,c,hd⟩:∃o c,dyI k p.1 p.2=(o,c):=⟨_,_,rfl⟩
  obtain⟨o',c',hs⟩:∃o c,spL k t=(o,c):=⟨_,_,rfl⟩
  unfold spL at h;rw[hd]at h;cases o with
  |none=>simp at h
  |some x=>
   simp only[hs]at h;cases o' with
   |none=>simp at h
   |some l'=>
    have hc:=(zFd hs).1;subst hc;rw[zW1];unfold spL;rw[hd,ih hs]
def SpI (k:Nat) (ps:List (Int×Int)) (i:Nat) (zs:List Int):Prop:=spL k (ps.take i)=(some zs,0)
theorem SpI.start (k:Nat) (ps:List (Int×Int)):SpI k ps 0 []:=rfl
theorem SpI.step {k i:Nat} {ps:List (Int×Int)} {zs:List Int} {z:Int} (h:SpI k ps i zs) (hi:i<ps.length) (hz:dyI k (ps.getD i (0,0)).1 (ps.getD i (0,0)).2=(some z,0)):SpI k ps (i+1) (zs++[z]):=by
 unfold SpI;rw[yE0 hi];rw[yJ,yM hi]at hz;exact yB8 h hz
theorem SpI.stop {k i:Nat} {ps:List (Int×Int)} {zs:List Int} {e:Int} (h:SpI k ps i zs) (hi:i<ps.length) (hz:dyI k (ps.getD i (0,0)).1 (ps.getD i (0,0)).2=(none,e)):spL k ps=(none,e):=by
 have e1:ps=ps.take i++ps[i]::ps.drop (i+1):=by
  rw[←xL1 hi,yN1]
 rw[yJ,yM hi]at hz;rw[e1];exact yC8 h hz
theorem SpI.ends {k:Nat} {ps:List (Int×Int)} {zs:List Int} (h:SpI k ps ps.length zs):spL k ps=(some zs,0):=by
 unfold SpI at h;rwa [yW (zR _)]at h
theorem yD8 {u v:Bool} {xs ys:List Int} {n i:Nat} (h:i<n):(prs u v xs ys n).getD i (0,0)=(xs.getD (if u then 0 else i) 0,ys.getD (if v then 0 else i) 0):=by
 have hl:i<(prs u v xs ys n).length:=by rw[zKd];exact h
 rw[yJ,yM hl];exact zLd hl
theorem yE8 {xs:List Int} {j:Nat} (hj:j<xs.length):(xs.map S).getD j ByteArray.empty=S (xs.getD j 0):=by
 simp[yJ,yM hj]
theorem yF8 {xs:List Int} (h:∀x∈xs,x.natAbs<lim) (j:Nat):(xs.getD j 0).natAbs<lim:=by
 rw[yJ];cases e:xs[j]? with
 |none=>simp;exact zZe
 |some x=>exact h x (yL1 e)
def yG8 (s:ByteArray) (W:World) (e:Ending) (W':World):Prop:=e=.returned (.string s)∧Below W.heap.size W W'
theorem yH8 {a b:Option Addr} {n c m d:Nat} {l:List Int} {es:List ByteArray} (W:World) (h:Vl W a n b m l es) (i:Nat) (hi:(if nx l then 0 else i)<m):
 Calls Tryz.prog 180 #[.agg #[.slice a n c,.slice b m d],.int .i64 i] W (yG8 (es.getD (if nx l then 0 else i) ByteArray.empty) W):=by
 have hx:=Bx.new W a n c b m d;have hbl:Below W.heap.size W (W.alloc (.cells #[.slice a n c,.slice b m d] 25)):=(zI _ _).alloc (zR _) _;have hv:=h.below hbl;have hmm:=h.mm;obtain⟨gb,off,rfl,hc⟩:=hv.t.2 yEn;have hck:=hc _ hi;have hln:=h.s.1;have x0:=hx.c0;have x1:=hx.c1;have HB:=zC hbl;by_cases h0:n=0
 · subst h0
   obtain rfl:=yO0.1 hln;have e:(if nx []then 0 else i)=0:=rfl;rw[e]at hck hi ⊢;rw[xB]at hck;generalize es.getD 0 ByteArray.empty=s at hck ⊢;clear hv h hc hln hbl hx e;go_in;go_wp2_with fail;go_ret;exact⟨rfl,HB.out⟩
 · have e:(if nx l then 0 else i)=i:=by
    have:nx l=false:=yG0 (by rintro rfl;exact h0 hln.symm);rw[this];rfl
   rw[e]at hck hi ⊢;generalize es.getD i ByteArray.empty=s at hck ⊢;have e1:¬(n:Int)=0:=by omega
   have e2:(i:Int)<(m:Int):=by omega
   clear hv h hc hln hbl hx e;go_in;go_wp2_with fail;go_ret;exact⟨rfl,HB.out⟩
def yI8 (l:List UInt8) (sg:List UInt8):Bool:=match l with
 |[c]=>decide (c∈sg)
 |_=>false
theorem yJ8 (l:List UInt8):yI8 l [43,45,42,37,33,38,124,60,62,61,126]=decide (kdL l<11):=by
 rcases xOk (l:=l) rfl with⟨h,e⟩|⟨h,e⟩|⟨h,e⟩|⟨h,e⟩|⟨h,e⟩|⟨h,e⟩|⟨h,e⟩|⟨h,e⟩|⟨h,e⟩|⟨h,e⟩|⟨h,e⟩|⟨h,n1,n2,n3,n4,n5,n6,n7,n8,n9,n10,n11⟩
 all_goals try(subst e;decide)
 rw[h];unfold yI8;split
 · simp_all
 · rfl
theorem yK8 (l:List UInt8):yI8 l [45,126,42]=decide (kmL l<3):=by
 rcases xPk (l:=l) rfl with⟨h,e⟩|⟨h,e⟩|⟨h,e⟩|⟨h,n1,n2,n3⟩
 all_goals try(subst e;decide)
 rw[h];unfold yI8;split
 · simp_all
 · rfl
theorem yL8 (l:List UInt8) (c:UInt8):(0≤Lib.indexByte l c)↔c∈l:=by
 induction l with
 |nil=>simp[Lib.indexByte]
 |cons x a ih=>
  unfold Lib.indexByte;by_cases h:x=c
  · subst h;simp
  · have hx:(x==c)=false:=xM1 h
    have hc:c≠x:=fun e=>h e.symm;simp only[hx,xN1,hc,false_or];rw[←ih];by_cases h1:Lib.indexByte a c= -1
    · simp[h1]
    · have h2:(Lib.indexByte a c== -1)=false:=xM1 h1
      simp only[h2];have:=Lib.indexByte_ge a c;simp;omega
theorem yM8 (s m:ByteArray) (hz:s.size≤maxLen) (w:World):Calls Tryz.prog 144 #[.string s,.string m] w (yX4 (yI8 s.data.toList m.data.toList) w):=by
 unfold maxLen at hz;rcases hl:s.data.toList with _|⟨c,_|⟨d,r⟩⟩
 · have hs:s.data.toList.length=s.size:=by simp
   have e2:¬(s.size:Int)=1:=by rw[←hs,hl];simp
   rw[show yI8 [] m.data.toList=false from rfl];clear hl hs;go_in;go_wp2_with fail;go_ret;exact⟨rfl,zI _ _⟩
 · obtain rfl:s=⟨#[c]⟩:=by
    obtain⟨⟨d⟩⟩:=s;have hl:d=[c]:=hl;rw[hl]
   have K:=Tryz.strings_Contains_one m c w;rw[show decide (0≤Lib.indexByte m.data.toList c)=yI8 [c] m.data.toList from decide_eq_decide.2 (yL8 _ _)]at K;generalize yI8 [c] m.data.toList=v at*;replace K:=zC K;clear hl;cases v
   all_goals
    go_in;go_wp2_with fail;refine K.out.mono ?_;rintro e w1 ⟨rfl,rfl⟩;go_wp2_with fail;go_ret;exact⟨rfl,zI _ _⟩
 · have hs:s.data.toList.length=s.size:=by simp
   have e2:¬(s.size:Int)=1:=by rw[←hs,hl];simp;omega
   rw[show yI8 (c::d::r) m.data.toList=false from rfl];clear hl hs;go_in;go_wp2_with fail;go_ret;exact⟨rfl,zI _ _⟩
theorem yN8 (op:ByteArray) (ho:op.size≤maxLen) (w:World) (hw:SC w):Calls Tryz.prog 155 #[.string op] w (yX4 (decide (kdL op.data.toList<11)) w):=by
 have K1:=zC (zIl w hw);have K2:=fun w'=>yM8 op ⟨#[43,45,42,37,33,38,124,60,62,61,126]⟩ ho w';rw[show(⟨#[43,45,42,37,33,38,124,60,62,61,126]⟩:ByteArray).data.toList=[43,45,42,37,33,38,124,60,62,61,126]from rfl,yJ8]at K2;replace K2:=zC K2;generalize decide (kdL op.data.toList<11)=v at*;clear ho;go_in;go_wp2_with fail;refine K1.out.mono ?_;rintro e w1 ⟨rfl,hb⟩;go_wp2_with fail;refine(K2.out _).mono ?_;rintro e w2 ⟨rfl,hq⟩;go_wp2_with fail;go_ret;exact⟨rfl,hb.trans (hq.mono hb.size)⟩
end
section
open Go.RowKit
def yO8 (Kp:World→World→Prop) (I Ix:World→Prop) (W:World):Exit→Act→World→Prop
 | .normal,_,W'=>KeepsOthers W W'∧Kp W W'∧I W'
 | .ret,_,W'=>KeepsOthers W W'∧Ix W'
 | .exit _,_,_=>False
 | .goto _,_,_=>False
 | .panic _,_,_=>False
 | .outgrown,_,_=>False
def yP8 (F:Fence) (n:Nat) (P:Program) (gf:Nat) (lb:Array Value) (encs:Nat→Array Value) (B N:Nat) (Kp:World→World→Prop) (w:World):Prop:=
 ∀(l:Nat) (J:Nat→World→Prop) (Jx:World→Prop) (W:World),Below w.heap.size w W→(∀k A A',J k A→A.grownBy A' (some B)→J k A')→
  (∀k W1,k<N→J k W1→YieldAt F (n-1) P l (encs k) W1 fun e W'=>(e=.returned (.bool true)∧J (k+1) W'∧Kp W1 W')∨(e=.returned (.bool false)∧Jx W'))→
  J 0 W→CallsIn F n P gf (#[.func (.yield l) #[] #[]]++lb) W fun e W'=>(∃v,e=.returned v)∧(J N W'∨Jx W')
structure Abs (S B:Nat) (I:World→Prop):Prop where
 own:∀A A',I A→A.grownBy A' (some B)→I A'
 put:∀A l o o',I A→S≤l→A.heap[l]?=some o→o.isCells=false→I (A.putObj l o')
theorem yQ8 (A:World) (o:Obj) (B:Nat):A.grownBy (A.alloc o) (some B):=World.grownBy_alloc A o (some B)
theorem yR8 {A A':World} {B l:Nat} {o:Obj} (h:A.grownBy A' (some B)) (hl:A.heap[l]?=some o) (hne:l≠B):A'.heap[l]?=some o:=
 (h.block l (zZ0.1 hl).1 (fun e=>hne (zX1 e))).trans hl
variable {F:Fence} {n:Nat} {P:Program}
theorem yS8 {g:Operand} {ps:Array Tmp} {assign body:Code} {Q:Exit→Act→World→Prop} {a:Act} {w:World}
 (hro:F.round=none) (h1:1≤n) {gf:Nat} {lb:Array Value} (hg:a.eval g=.func (.func gf) #[] lb) (hFg:F.fn gf) (eg:∀args w,(callFunc gf args).run P w=.ok (.enter gf args) w)
 {encs:Nat→Array Value} {B N:Nat} {Kp:World→World→Prop} (hseq:yP8 F (n-1) P gf lb encs B N Kp w) (hB:B<w.heap.size)
 (hKt:∀X Y Z,Kp X Y→Kp Y Z→Kp X Z) (hKb:∀X l o,w.heap.size≤l→Kp X (X.putObj l o)) (hps:∀k,(encs k).size=ps.size)
 (I:Nat→World→Prop) (Ix:World→Prop) (hI:∀k,Abs w.heap.size B (I k)) (hIx:Abs w.heap.size B Ix) (h0:I 0 w) (a1:Nat→Act)
 (hassign:∀(l k:Nat) (W:World) (K:Act→World→Prop),K (a1 k) W→
   assign.wpIn (F.inRound l) (n-1-1) P (Exit.then K (fun _ _ _=>False)) {tmps:=(ps.zip (encs k)).foldl (fun t (p,v)=>t.setIfInBounds p v) a.tmps,defers:=[]} W)
 (hbody:∀(l k:Nat) (W:World),k<N→I k W→body.wpIn (F.inRound l) (n-1-1) P (yO8 Kp (I (k+1)) Ix W) (a1 k) W)
 (hdone:∀(D:Nat) (W:World),w.heap.size≤D→I N W→W.heap[D]?=some (.deferred (some []))→Q .normal {a with defers:={target:=.collected D,args:=#[]}::a.defers} W)
 (hstop:∀(D:Nat) (W:World),w.heap.size≤D→Ix W→W.heap[D]?=some (.deferred (some []))→Code.ret.wpIn F n P Q {a with defers:={target:=.collected D,args:=#[]}::a.defers} W):
 (Code.rangeFunc g ps assign body).wpIn F n P Q a w:=by
 refine wpIn_rangeFunc fun fn hfn=> ?_;rw[hro];obtain⟨S,hS⟩:∃S,w.heap.size=S:=⟨_,rfl⟩
 let rec_:LoopState→Option Code→Loop:=fun st pe=>{state:=st,pending:=pe,fn:=fn,tmps:=a.tmps,params:=ps,assign:=assign,body:=body,defers:=w.heap.size}
 obtain⟨R,hR⟩:∃R:LoopState→Option Code→Loop,R=rec_:=⟨_,rfl⟩
 obtain⟨V,hV⟩:∃V,(w.alloc (.deferred (some []))).alloc (.loop (R .ready none))=V:=⟨_,rfl⟩
 have dV:V.heap[S]?=some (.deferred (some [])):=by
  rw[←hV,←hS];exact(zC1 _ _ _ yHn).trans (World.alloc_heap_new w _)
 have lV:V.heap[S+1]?=some (.loop (R .ready none)):=by
  rw[←hV,←hS];have:=World.alloc_heap_new (w.alloc (.deferred (some []))) (.loop (R .ready none));rwa [yP0]at this
 have bV:Below w.heap.size w V:=by
  rw[←hV];exact((zI _ w).alloc (zR _) _).alloc yHn _
 have iV:I 0 V:=by
  rw[←hV];exact(hI 0).own _ _ ((hI 0).own _ _ h0 (yQ8 _ _ _)) (yQ8 _ _ _)
 refine⟨S+1,[{target:=.collected S,args:=#[]}],V,{target:=.fn (.func gf) lb,args:=#[.func (.yield (S+1)) #[] #[]]},V,gf,#[.func (.yield (S+1)) #[] #[]]++lb,V,?_,?_,?_,?_,fun _=>h1,?_⟩
 · rw[←hV,←hS,hR]
   exact run_enterLoop_outer _ _ _ _ _
 · simp only[resolve,hg]
   simp[go_sem]
 · intro f' hf'
   simp[Target.leads]at hf'
   subst hf';exact hFg
 · simp[invoke,go_sem,eg]
 have hBS:B≠S∧B≠S+1:=by omega
 refine(hseq (S+1) (fun k W=>I k W∧W.heap[S]?=some (.deferred (some []))∧W.heap[S+1]?=some (.loop (R .ready none)))
  (fun W=>Ix W∧W.heap[S]?=some (.deferred (some []))∧W.heap[S+1]?=some (.loop (R .done (some .ret)))) V bV
  (fun k A A' h hg=>⟨(hI k).own _ _ h.1 hg,yR8 hg h.2.1 hBS.1.symm,yR8 hg h.2.2 hBS.2.symm⟩) ?_ ⟨iV,dV,lV⟩).mono ?_
 · rintro k X hk ⟨iX,dX,lX⟩
   have hlt:S+1<X.heap.size:=(zZ0.1 lX).1;have hy:=run_yield (P:=P) (args:=encs k) lX (by rw[hR];exact hps k);rw[hR]at hy;refine⟨fn,_,assign,body,hy,roundIn_of_wpIn hfn (hassign _ k X _ ⟨_,run_beginRound lX (by rw[hR]),?_⟩)⟩;obtain⟨Y,hY⟩:∃Y,X.putObj (S+1) (.loop {R .ready none with state:=.busy})=Y:=⟨_,rfl⟩
   have lY:Y.heap[S+1]?=some (.loop {R .ready none with state:=.busy}):=by rw[←hY];exact World.putObj_heap_same hlt
   have dY:Y.heap[S]?=some (.deferred (some [])):=by rw[←hY];exact(xP1 yEn).trans dX
   have iY:I k Y:=by rw[←hY];exact(hI k).put _ _ _ _ iX yEn lX rfl
   have kY:Kp X Y:=by rw[←hY];exact hKb _ _ _ yEn
   rw[hY];refine wpIn_mono (hbody _ k Y hk iY) ?_;have fin:∀(jump:Option Code) (Z:World),KeepsOthers Y Z→(Instr.endRound (S+1) jump).run P Z=.ok (.bool jump.isNone) (Z.putObj (S+1) (.loop (R (if jump.isNone then .ready else .done) jump)))∧
    Z.heap[S+1]?=some (.loop {R .ready none with state:=.busy})∧(Z.putObj (S+1) (.loop (R (if jump.isNone then .ready else .done) jump))).heap[S]?=some (.deferred (some []))∧
    (Z.putObj (S+1) (.loop (R (if jump.isNone then .ready else .done) jump))).heap[S+1]?=some (.loop (R (if jump.isNone then .ready else .done) jump)):=fun jump Z hZ=>by
    have lZ:=hZ.same _ _ lY rfl;have e:=run_endRound (P:=P) jump lZ;rw[hR]at e ⊢;rw[hR]at lZ;exact⟨e,lZ,(xP1 yEn).trans (hZ.same _ _ dY rfl),World.putObj_heap_same (zZ0.1 lZ).1⟩
   rintro e a3 Z hp;cases e with
   |normal=>
    obtain⟨h1,h2,h3⟩:=hp;obtain⟨hr,lZ,dU,lU⟩:=fin none Z h1;exact⟨_,_,hr,.inl ⟨rfl,⟨(hI (k+1)).put _ _ _ _ h3 yEn lZ rfl,dU,lU⟩,hKt _ _ _ (hKt _ _ _ kY h2) (hKb _ _ _ yEn)⟩⟩
   |ret=>
    obtain⟨h1,h3⟩:=hp;obtain⟨hr,lZ,dU,lU⟩:=fin (some .ret) Z h1;exact⟨_,_,hr,.inr ⟨rfl,hIx.put _ _ _ _ h3 yEn lZ rfl,dU,lU⟩⟩
   |exit id=>exact hp.elim
   |goto t=>exact hp.elim
   |panic ch=>exact hp.elim
   |outgrown=>exact hp.elim
 · rintro e Z ⟨⟨v,rfl⟩,(⟨iZ,dZ,lZ⟩|⟨iZ,dZ,lZ⟩)⟩
   · have e:=run_endLoop (P:=P) lZ (by rw[hR];simp[rec_])
     rw[hR]at e;exact⟨none,_,e,hdone S _ yEn ((hI N).put _ _ _ _ iZ yEn lZ rfl) ((xP1 yEn).trans dZ)⟩
   · have e:=run_endLoop (P:=P) lZ (by rw[hR];simp[rec_])
     rw[hR]at e;exact⟨some .ret,_,e,hstop S _ yEn (hIx.put _ _ _ _ iZ yEn lZ rfl) ((xP1 yEn).trans dZ)⟩
end
section
open Go.RowKit Go.Shelf
attribute [local go_sem] Oper.semAt_some
structure PrB (W0:World) (B:Nat) (N:Nat) (v w:Array Value) (W:World):Prop where
 bv:W.heap[B]?=some (.cells v 25 (0,0))
 bw:W.heap[B+1]?=some (.cells w 25 (0,0))
 bs:Boxed W (B+2) 3 (.int .i64 N)
 old:∀b,b<W0.heap.size→W.heap[b]?=W0.heap[b]?
def PrK (W0:World) (B:Nat) (X Y:World):Prop:=∀b,(b<W0.heap.size∨(B≤b∧b<B+3))→Y.heap[b]?=X.heap[b]?
section
variable {W0 X Y W:World} {B N:Nat} {v w:Array Value}
theorem PrB.kept (h:PrB W0 B N v w X) (k:PrK W0 B X Y):PrB W0 B N v w Y:=
 ⟨(k B (.inr ⟨by omega,by omega⟩)).trans h.bv,(k (B+1) (.inr ⟨by omega,by omega⟩)).trans h.bw,(k (B+2) (.inr ⟨by omega,by omega⟩)).trans h.bs,fun b hb=>(k b (.inl hb)).trans (h.old b hb)⟩
theorem PrB.below (h:PrB W0 B N v w X) (hs:W0.heap.size≤B) (hb:Below X.heap.size X Y):PrB W0 B N v w Y:=by
 have l2:=h.bs.lt;exact h.kept fun b hb2=>hb.block b yEn
theorem Vl.blocks {a:Option Addr} {n:Nat} {b:Option Addr} {m:Nat} {l:List Int} {es:List ByteArray} (h:Vl W0 a n b m l es) (hb:∀b,b<W0.heap.size→W.heap[b]?=W0.heap[b]?):Vl W a n b m l es:=by
 refine⟨⟨h.s.1,fun hn=> ?_⟩,⟨h.t.1,fun hn=> ?_⟩,h.mm⟩
 · obtain⟨g,off,e,hc⟩:=h.s.2 hn
   exact⟨g,off,e,fun j hj=>(xQ1 (a:=⟨g,off+j,none⟩) (hb g (yU W0 _ (hc j hj)))).trans (hc j hj)⟩
 · obtain⟨g,off,e,hc⟩:=h.t.2 hn
   exact⟨g,off,e,fun j hj=>(xQ1 (a:=⟨g,off+j,none⟩) (hb g (yU W0 _ (hc j hj)))).trans (hc j hj)⟩
end
theorem yT8 {W W':World} {B:Nat} (h:Below W.heap.size W W'):W.grownBy W' (some B):=⟨h.os,h.tape,h.output,h.size,fun i hi _=>h.block i hi⟩
def elR (u:Bool) (es:List ByteArray) (i:Nat):ByteArray:=es.getD (if u then 0 else i) ByteArray.empty
def yU8 (u v:Bool) (es fs:List ByteArray) (i:Nat):Array Value:=#[.string (elR u es i),.string (elR v fs i)]
theorem yV8 {e:Ending} {A B:Prop} (h:(e=.returned (.bool true)∧A)∨(e=.returned (.bool false)∧B)):∃b:Bool,e=.returned (.bool b)∧(b=true→A)∧(b=false→B):=by
 rcases h with⟨h1,h2⟩|⟨h1,h2⟩
 · exact⟨true,h1,fun _=>h2,fun h=>by cases h⟩
 · exact⟨false,h1,fun h=>(by cases h),fun _=>h2⟩
theorem yW8 (n:Nat) (W0:World) (B C N:Nat) {a1 b1 a2 b2:Option Addr} {n1 c1 m1 d1 n2 c2 m2 d2:Nat} {l k:List Int} {es fs:List ByteArray} (hV:Vl W0 a1 n1 b1 m1 l es) (hU:Vl W0 a2 n2 b2 m2 k fs)
 (h1:∀i,i<N→(if nx l then 0 else i)<m1) (h2:∀i,i<N→(if nx k then 0 else i)<m2) (hN:N≤1000000) (hs:W0.heap.size≤B)
 (w:World) (hP:PrB W0 B N #[.slice a1 n1 c1,.slice b1 m1 d1] #[.slice a2 n2 c2,.slice b2 m2 d2] w):
 yP8 Fence.wide n Tryz.prog 179 #[.pointer (some ⟨B+2,0,none⟩),.pointer (some ⟨B,0,none⟩),.pointer (some ⟨B+1,0,none⟩)] (yU8 (nx l) (nx k) es fs) C N (PrK W0 B) w:=by
 intro y J Jx W hW hJ hY h0;have hPW:PrB W0 B N #[.slice a1 n1 c1,.slice b1 m1 d1] #[.slice a2 n2 c2,.slice b2 m2 d2] W:=hP.below hs hW;refine callsIn_of_wp Tryz.func179 rfl trivial ?_ rfl;simp only[Tryz.ntmps179,yB1,yC1,xR1,Nat.reduceAdd,Nat.reduceSub,Array.replicate_succ,Array.replicate_zero,List.push_toArray,List.append_toArray,zS0,zW1];have c0:=hPW.bs.cell;have HV:=zC hV;have HU:=zC hU;have H1:=zC h1;have H2:=zC h2;have HY:=zC hY;have HJ:=zC hJ;have HS:=zC hs;clear hV hU h1 h2 hY hJ hP hW hs;gi_wp2
 gi_loopw [7] (fun iv wr=>∃i:Nat,iv=.int .i64 i∧i≤N∧PrB W0 B N #[.slice a1 n1 c1,.slice b1 m1 d1] #[.slice a2 n2 c2,.slice b2 m2 d2] wr∧J i wr) (fun iv _=>N-(intOf iv).toNat)
 case atStart=>exact⟨0,rfl,xJ _,hPW,h0⟩
 case round=>
  obtain⟨i,rfl,hi,hb,hj⟩:=hrel;clear c0 hPW h0;by_cases hlt:i<N
  · have e2:(i:Int)<(N:Int):=by omega
    have v0:wr.cell? ⟨B,0,none⟩=some (.slice a1 n1 c1):=by rw[yB0 _ _ 0 _ _ _ hb.bv];rfl
    have v1:wr.cell? ⟨B,1,none⟩=some (.slice b1 m1 d1):=by rw[yB0 _ _ 1 _ _ _ hb.bv];rfl
    have u0:wr.cell? ⟨B+1,0,none⟩=some (.slice a2 n2 c2):=by rw[yB0 _ _ 0 _ _ _ hb.bw];rfl
    have u1:wr.cell? ⟨B+1,1,none⟩=some (.slice b2 m2 d2):=by rw[yB0 _ _ 1 _ _ _ hb.bw];rfl
    have lB:B+1<wr.heap.size:=by have:=hb.bs.lt;omega
    obtain⟨s1,hs1⟩:∃s,es.getD (if nx l then 0 else i) ByteArray.empty=s:=⟨_,rfl⟩
    obtain⟨s2,hs2⟩:∃s,fs.getD (if nx k then 0 else i) ByteArray.empty=s:=⟨_,rfl⟩
    have hE:yU8 (nx l) (nx k) es fs i=#[.string s1,.string s2]:=by unfold yU8 elR;rw[hs1,hs2]
    have K1:=yH8 (c:=c1) (d:=d1) wr.drew (HV.out.blocks hb.old) i (H1.out i hlt);have K2:=fun z (hz:Below wr.heap.size wr z)=>yH8 (c:=c2) (d:=d2) z ((HU.out.blocks hb.old).below hz) i (H2.out i hlt);rw[hs1]at K1;rw[hs2]at K2;replace K1:=zC K1;replace K2:=zC K2;have HE:=zC hE;have HB:=zC hb;have HJi:=zC hj;have hbw:Below wr.heap.size wr wr.drew:=zU (zI _ _);clear hE hs1 hs2 hb hj;gi_wp2
    gi_region_with (first
     |(refine⟨trivial,fun h=>(by cases h),?_⟩;gi_at_call 180;(with_reducible refine(xS1.2 K1.out).mono ?_);rintro e w1 ⟨rfl,hq1⟩;have hq2:=hbw.trans (hq1.mono hbw.size);have z0:=(hq2.cell (p:=⟨B+1,0,none⟩) lB).trans u0;have z1:=(hq2.cell (p:=⟨B+1,1,none⟩) lB).trans u1)
     |(refine⟨trivial,fun h=>(by cases h),?_⟩;gi_at_call 180;refine(xS1.2 (K2.out _ hq2)).mono ?_;rintro e w2 ⟨rfl,hq3⟩;have hq4:=hq2.trans (hq3.mono hq2.size);obtain⟨fn,tmps,assign,body,hy,hR⟩:=HY.out i w2 hlt (HJ.out _ _ _ HJi.out (yT8 hq4));rw[HE.out]at hy)
     |(refine⟨fun h=>(by cases h),hR.mono ?_⟩;rintro e w3 hh;obtain⟨bb,rfl,hh1,hh2⟩:=yV8 hh))
    all_goals
     cases bb
     · have hx:=hh2 rfl
       clear hh1 hh2 hy hR;gi_wp2
       refine zE (results_none rfl _ _ _) rfl ?_;exact⟨⟨_,rfl⟩,.inr hx⟩
     · obtain⟨hj3,hk3⟩:=hh1 rfl
       have hb3:=(HB.out.below HS.out hq4).kept hk3;clear hh1 hh2 hy hR;gi_wp2
       go_roundw
       case rel=>exact⟨i+1,by go_num,by omega,hb3,hj3⟩
       case measure=>simp[intOf];omega
  · have e2:¬(i:Int)<(N:Int):=by omega
    obtain rfl:i=N:=by omega
    gi_wp2
    go_end0
    exact⟨⟨_,rfl⟩,.inl hj⟩
theorem yX8 (W:World) (o1 o2:Obj):((W.alloc o1).alloc o2).heap[W.heap.size]?=some o1∧((W.alloc o1).alloc o2).heap[W.heap.size+1]?=some o2∧Below W.heap.size W ((W.alloc o1).alloc o2):=by
 have s1:(W.alloc o1).heap.size=W.heap.size+1:=by simp
 have h1:=yE W o1;have h2:=yE (W.alloc o1) o2;rw[s1]at h2;exact⟨(zC1 _ o2 _ yEn).trans h1,h2,((zI _ _).alloc (zR _) _).alloc yEn _⟩
theorem yY8 (W:World) (o1 o2 o3:Obj):(((W.alloc o1).alloc o2).alloc o3).heap[W.heap.size]?=some o1∧(((W.alloc o1).alloc o2).alloc o3).heap[W.heap.size+1]?=some o2∧(((W.alloc o1).alloc o2).alloc o3).heap[W.heap.size+1+1]?=some o3∧Below W.heap.size W (((W.alloc o1).alloc o2).alloc o3):=by
 have s1:(W.alloc o1).heap.size=W.heap.size+1:=by simp
 have s2:((W.alloc o1).alloc o2).heap.size=W.heap.size+1+1:=by simp
 have h1:=yE W o1;have h2:=yE (W.alloc o1) o2;have h3:=yE ((W.alloc o1).alloc o2) o3;rw[s1]at h2;rw[s2]at h3;exact⟨(zC1 _ o3 _ yEn).trans ((zC1 _ o2 _ yEn).trans h1),(zC1 _ o3 _ yEn).trans h2,h3,(((zI _ _).alloc (zR _) _).alloc yEn _).alloc yEn _⟩
def prW (w:World) (v u:Array Value) (N:Nat):World:=((w.alloc (.cells v 25)).alloc (.cells u 25)).alloc (.cells #[.int .i64 N] 3)
theorem yZ8 (w:World) (v u:Array Value) (N:Nat):(prW w v u N).heap.size=w.heap.size+3:=by unfold prW;simp
theorem xA8 (w:World) (v u:Array Value) (N:Nat):Below w.heap.size w (prW w v u N):=(((zI _ w).alloc (zR _) _).alloc yHn _).alloc zZn _
theorem xB8 (w:World) (v u:Array Value) (N:Nat):PrB w w.heap.size N v u (prW w v u N):=by
 obtain⟨h1,h2,h3,hb⟩:=yY8 w (.cells v 25) (.cells u 25) (.cells #[.int .i64 N] 3);exact⟨h1,h2,h3,fun b hb'=>hb.block b hb'⟩
def prF (w:World):Value:=.func (.func 179) #[] #[.pointer (some ⟨w.heap.size+2,0,none⟩),.pointer (some ⟨w.heap.size,0,none⟩),.pointer (some ⟨w.heap.size+1,0,none⟩)]
theorem xC8 (v0 v1 u0 u1:Value) (a:Option Addr) (n c:Nat) (l:List Int) (W:World) (h:Sl W a n l) (he:szE l=0) (N:Nat) (hN:pr l=N):
 Calls Tryz.prog 157 #[.agg #[v0,v1],.agg #[u0,u1],.slice a n c] W fun e W'=>e=.returned (prF W)∧prW W #[v0,v1] #[u0,u1] N=W':=by
 have hb:Below W.heap.size W ((W.alloc (.cells #[v0,v1] 25)).alloc (.cells #[u0,u1] 25)):=((zI _ W).alloc (zR _) _).alloc yHn _;have K:=yM9 a n c l _ (h.below hb);unfold yJ9 at K;rw[yD9 he,he,hN]at K;replace K:=zC K;clear hb h he hN;go_in;go_wp2_with fail;refine K.out.mono ?_;rintro e w1 ⟨rfl,rfl⟩;go_wp2_with fail;go_ret;exact⟨rfl,rfl⟩
end
section
open Go.RowKit
theorem xD8 {w:World} {base n:Nat} {v:Value} {l:List Int} (h:w.ownsRow base 3 1 v n (yS9 l)):∃a c,v=.slice a n c∧Sl w a n l∧n≤c∧c≤maxLen:=by
 obtain⟨a,c,rfl⟩:=zWf h;refine⟨a,c,rfl,zYf h,?_⟩;rcases h.2 with⟨e,h0⟩|⟨g,cap,cur,e,_,_,h1,h2,_⟩
 · injection e with _ _ e
   subst e;exact⟨by omega,by unfold maxLen;omega⟩
 · injection e with _ _ e
   subst e;exact⟨h1,h2⟩
theorem xE8 {w:World} {base n c:Nat} {a:Option Addr} {e:TypeId} {xs:List Value} (h:w.ownsRow base e 1 (.slice a n c) n xs):n≤c∧c≤maxLen:=by
 rcases h.2 with⟨e,h0⟩|⟨g,cap,cur,e,_,_,h1,h2,_⟩
 · injection e with _ _ e
   subst e;exact⟨by omega,by unfold maxLen;omega⟩
 · injection e with _ _ e
   subst e;exact⟨h1,h2⟩
def xF8 (l:List Int) (W:World) (x:Ending) (W':World):Prop:=∃a' n' c',x=.returned (.slice a' n' c')∧Sl W' a' n' l∧n'≤20∧n'≤c'∧c'≤maxLen∧Below W.heap.size W W'
theorem xG8 (a:Option Addr) (n c:Nat) (l:List Int) (W:World) (h:Sl W a n l) (hn:n≤20):Calls Tryz.prog 100 #[.slice a n c] W (xF8 l W):=by
 rcases a with _|a
 · have h0:n=0:=by
    rcases yL0 n with h0|h0
    · exact h0
    · obtain⟨b,off,e,_⟩:=h.2 h0;cases e
   subst h0;obtain rfl:=yO0.1 h.1;refine(Tryz.slices_Clone_int_nil 0 c W).mono ?_;rintro x w ⟨rfl,rfl⟩;exact⟨none,0,0,rfl,Sl.nil _ _,by omega,by omega,by unfold maxLen;omega,zI _ _⟩
 · by_cases h0:n=0
   · subst h0
     obtain rfl:=yO0.1 h.1;refine(Tryz.slices_Clone_int_zero a c W).mono ?_;rintro x w ⟨v',rfl,hown,_,hb⟩;obtain⟨a',c',rfl,hs,q1,q2⟩:=xD8 (l:=[]) hown;exact⟨a',0,c',rfl,hs,by omega,q1,q2,hb⟩
   · obtain⟨b,off,e,hc⟩:=h.2 yEn
     injection e with e
     subst e;refine(Tryz.slices_Clone_int b off n c l W zAn yEn (fun j hj=>hc j (by rw[←h.1];exact hj))).mono ?_;rintro x w ⟨v',rfl,hown,_,hb⟩;rw[yW zAn]at hown;obtain⟨a',c',rfl,hs,q1,q2⟩:=xD8 hown;exact⟨a',n,c',rfl,hs,hn,q1,q2,hb⟩
def xH8 (l:List Int) (e:Int) (W:World) (x:Ending) (W':World):Prop:=∃a' n' c',x=.returned (.tuple #[.slice a' n' c',.int .i64 e])∧Sl W' a' n' l∧n'≤20∧n'≤c'∧c'≤maxLen∧Below W.heap.size W W'
theorem xI8 (a1 a2:Option Addr) (n c m d:Nat) (l k:List Int) (W:World) (h1:Sl W a1 n l) (h2:Sl W a2 m k) (hn:n≤20) (hm:m≤20):
 Calls Tryz.prog 156 #[.slice a1 n c,.slice a2 m d] W (xH8 (mtV l k) (mtE l k) W):=by
 have K:=zC (yP9 a1 a2 n c m d l k W h1 h2 yEn yEn);have hl:=h1.1;have hk:=h2.1;have HL:=zC (And.intro hl hk);have H1:=zC h1;have H2:=zC h2;have C1:=zC (fun w (hw:Below W.heap.size W w)=>xG8 a1 n c l w (h1.below hw) hn);have C2:=zC (fun w (hw:Below W.heap.size W w)=>xG8 a2 m d k w (h2.below hw) hm);obtain⟨b,hb⟩:∃b,b=(l==k):=⟨_,rfl⟩
 rw[←hb]at K;have HB:=zC hb;clear hb h1 h2 hl hk;by_cases c1:b=true
 · subst c1
   have e1:mtE l k=0:=yA (.inl HB.out.symm);have e2:mtV l k=l:=yA (.inl HB.out.symm);rw[e1,e2];clear e1 e2;go_in;go_wp2_with fail;refine K.out.mono ?_;rintro x w1 ⟨rfl,hb1⟩;go_wp2_with fail;refine(C1.out _ hb1).mono ?_;rintro x w2 ⟨a',n',c',rfl,hs,hn',hnc,hcm,hb2⟩;go_wp2_with fail;go_ret2;exact⟨a',n',c',rfl,hs,hn',hnc,hcm,hb1.trans (hb2.mono hb1.size)⟩
 obtain rfl:b=false:=by simpa using c1
 by_cases c2:m=0
 · subst c2
   have e1:mtE l k=0:=yA (.inr HL.out.2);have e2:mtV l k=l:=yA (.inr HL.out.2);rw[e1,e2];clear e1 e2;go_in;go_wp2_with fail;refine K.out.mono ?_;rintro x w1 ⟨rfl,hb1⟩;go_wp2_with fail;refine(C1.out _ hb1).mono ?_;rintro x w2 ⟨a',n',c',rfl,hs,hn',hnc,hcm,hb2⟩;go_wp2_with fail;go_ret2;exact⟨a',n',c',rfl,hs,hn',hnc,hcm,hb1.trans (hb2.mono hb1.size)⟩
 have c2':(m:Int)≠0:=by omega
 have hno:¬((l==k)=true∨k.length=0):=by
  rintro(h|h)
  · rw[←HB.out]at h;cases h
  · have:=HL.out.2;omega
 by_cases c3:n=0
 · subst c3
   have e1:mtE l k=0:=by unfold mtE;rw[zY hno,yA HL.out.1]
   have e2:mtV l k=k:=by unfold mtV;rw[zY hno,yA HL.out.1]
   rw[e1,e2];clear e1 e2 hno;go_in;go_wp2_with fail;refine K.out.mono ?_;rintro x w1 ⟨rfl,hb1⟩;go_wp2_with fail;refine(C2.out _ hb1).mono ?_;rintro x w2 ⟨a',n',c',rfl,hs,hn',hnc,hcm,hb2⟩;go_wp2_with fail;go_ret2;exact⟨a',n',c',rfl,hs,hn',hnc,hcm,hb1.trans (hb2.mono hb1.size)⟩
 have c3':(n:Int)≠0:=by omega
 have e1:mtE l k=4:=by unfold mtE;rw[zY hno,zY xQm]
 have e2:mtV l k=[]:=by unfold mtV;rw[zY hno,zY xQm]
 rw[e1,e2];clear e1 e2 hno;go_in;go_wp2_with fail;refine K.out.mono ?_;rintro x w1 ⟨rfl,hb1⟩;go_wp2_with fail;go_ret2;exact⟨none,0,0,rfl,Sl.nil _ _,by omega,by omega,by unfold maxLen;omega,hb1⟩
theorem xJ8 {W:World} {B:Nat} {t:TypeId} {v:Value} (h:Boxed W B t v) {l:Nat} (o':Obj) (hne:B≠l):Boxed (W.putObj l o') B t v:=(xP1 hne).trans h
theorem xK8 {A:Nat} {w W:World} (h:Below A w W) {l:Nat} (o':Obj) (hl:A≤l):Below A w (W.putObj l o'):=
 h.trans ⟨rfl,rfl,rfl,by simp,fun k hk=>xP1 yEn⟩
theorem xL8 {W:World} {B base:Nat} {v:Value} {xs:List Value} {n:Nat} {e:TypeId} (h:W.ownsRow base e 1 v n xs) (hB:B<base):v.ownBlock=none∨v.ownBlock≠some B:=by
 rcases h.2 with⟨rfl,_⟩|⟨g,cap,cur,rfl,hb,_⟩
 · exact .inl rfl
 · refine .inr fun e=> ?_
   injection e with e
   have:g=B:=e;omega
theorem xM8 {W:World} {base base' k:Nat} {e:TypeId} {v:Value} {xs:List Value} (h:W.ownsRow base e 1 v k xs) (hb:base'≤base):W.ownsRow base' e 1 v k xs:=by
 refine⟨h.1,?_⟩;rcases h.2 with h|⟨g,cap,cur,e1,h1,h2⟩
 · exact .inl h
 · exact .inr ⟨g,cap,cur,e1,by omega,h2⟩
theorem xN8 {X Y:World} {B S:Nat} {t:TypeId} {v:Value} (h:Boxed X B t v) (hb:Below S X Y) (hS:B<S):Boxed Y B t v:=(hb.block B hS).trans h
theorem xO8 {X Y:World} (h:Below X.heap.size X Y):KeepsOthers X Y:=⟨h.size,fun k o hk _=>(h.block k (zZ0.1 hk).1).trans hk⟩
theorem Sl.again {W:World} {a:Option Addr} {n:Nat} {l:List Int} (h:Sl W a n l) {q:Addr} {u:Value} (hq:W.cell? q=some u):Sl (W.setCell q u) a n l:=by
 refine⟨h.1,fun hn=> ?_⟩;obtain⟨g,off,e,hc⟩:=h.2 hn;refine⟨g,off,e,fun j hj=> ?_⟩;by_cases hp:q=⟨g,off+j,none⟩
 · have h1:=hc j hj
   rw[←hp]at h1 ⊢;rw[World.cell?_setCell_same' _ _ _ (by rw[hq];rfl),←h1,hq]
 · rw[yY0 _ _ _ _ hp];exact hc j hj
end
end Go.Proofs.YtcfbjdplhgdpfaaGreatDoor

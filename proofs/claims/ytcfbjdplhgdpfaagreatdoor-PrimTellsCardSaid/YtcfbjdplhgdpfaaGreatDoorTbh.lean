import Derived.Test.YtcfbjdplhgdpfaaGreatDoorTbg
set_option maxHeartbeats 3200000
set_option maxRecDepth 100000
namespace Go.Proofs.YtcfbjdplhgdpfaaGreatDoor
set_option linter.unusedVariables false
set_option linter.unusedSimpArgs false
theorem zUm {P:Prop}(h:P:=by simp[results,Tryz.results67,go_sem,r0,r1]):P:=h
abbrev yI2:=@Int.sign_eq_neg_one_iff_neg
abbrev yH2:=@Int.sign_eq_one_iff_pos
section
open Go.RowKit
theorem zFa {l:List ByteArray} {x:ByteArray} (h:∀j,j<l.length→l.getD j ByteArray.empty≠x):fpS l x=l.length:=by
 rcases zM1 (fpS l x) l.length with h1|h1
 · have:=yNd h1
   exact absurd (by rw[yJ,this];rfl) (h _ h1)
 · have:=yMd l x;omega
theorem zGa (a:Option Addr) (n c:Nat) (es:List ByteArray) (s:ByteArray) (W:World) (h:St W a n es) (hn:n≤1000000):
 Calls Tryz.prog 71 #[.slice a n c,.string s] W fun e W'=>e=.returned (.int .i64 (fpS es s:Nat))∧W=W':=by
 have hl:=h.1;have HS:=zC h;have HL:=zC hl;clear h hl;go_in;go_wp2_with fail;go_loop [5] (fun iv=>∃i:Nat,iv=.int .i64 i∧i≤n∧Hid (∀j,j<i→es.getD j ByteArray.empty≠s)) (fun iv=>n-(intOf iv).toNat)
 case atStart=>exact⟨0,rfl,xJ _,zC fun j hj=>by omega⟩
 case round=>
  obtain⟨i,rfl,hi,HF⟩:=hrel;by_cases hlt:i<n
  · have e2:(i:Int)<(n:Int):=by omega
    obtain⟨bb,off,rfl,hc⟩:=HS.out.2 yEn;have hck:=hc i hlt;obtain⟨x,hx⟩:∃x,x=es.getD i ByteArray.empty:=⟨_,rfl⟩
    rw[←hx]at hck;have HX:=zC hx;clear hc hx;by_cases hs:x=s
    · subst hs
      have HR:=zC (show fpS es x=i from yQd xTm (by
       have:=HX.out;rw[yJ,yM xTm,yS]at this;rw[yM xTm,this]) (fun j hj e=>HF.out j hj (by rw[yJ,e];rfl)))
      go_wp2_with fail;go_ret;exact⟨by rw[HR.out];rfl,rfl⟩
    · have hne:(x.toList==s.toList)=false:=zT0.2 fun e=>hs (by
       rw[xAe,xAe]at e;exact yD1 (Array.toList_inj.1 e))
      go_wp2_with fail;go_round
      case rel=>exact⟨i+1,by go_num,by omega,zC fun j hj=>by
       by_cases e:j=i
       · rw[e,←HX.out];exact hs
       · exact HF.out j yEn⟩
      case measure=>simp[intOf];omega
  · have e2:¬(i:Int)<(n:Int):=by omega
    obtain rfl:i=n:=by omega
    have HR:=zC (show fpS es s=i from(zFa fun j hj=>HF.out j xKm).trans HL.out);go_wp2_with fail;go_ret;exact⟨by rw[HR.out];rfl,rfl⟩
theorem Sl.blk {w w':World} {a:Option Addr} {n B:Nat} {l:List Int} (h:Sl w a n l) (hb:Below B w w') (hB:∀p,a=some p→0<n→p.block<B):Sl w' a n l:=
 ⟨h.1,fun h0=>by
   obtain⟨bb,off,e,hc⟩:=h.2 h0;exact⟨bb,off,e,fun j hj=>(hb.cell (p:=⟨bb,off+j,none⟩) (show bb<B from hB _ e h0)).trans (hc j hj)⟩⟩
def vcE:Option Ar→Int
 |none=>1
 |some v=>if v.1.length≠1 then 3 else 0
theorem zHa {a1 b1:Option Addr} {n1 c1 m1 d1:Nat} {l:List Int} {es:List ByteArray} {W:World} (h1:Av W a1 n1 c1 b1 m1 d1 l es none):
 Calls Tryz.prog 68 #[.agg #[.slice a1 n1 c1,.slice b1 m1 d1]] W (zE7 1 W):=by
 have KV:=zC (fun w (hb:Below W.heap.size W w)=>zM4 (h1.below hb));clear h1;have h:=yUc W a1 n1 c1 b1 m1 d1;go_in;have x1:=h.out.1.c0;have y1:=h.out.1.c1;go_wp2_with fail
 with_reducible refine(yMf h (KV.out _ h.out.2)).mono ?_
 clear h x1 y1;rintro e w ⟨rfl,h⟩;go_wp2_with fail;go_ret;exact⟨rfl,h.out.2⟩
theorem zIa {a1 b1:Option Addr} {n1 c1 m1 d1:Nat} {l:List Int} {es:List ByteArray} {W:World} {q:Ar} (h1:Av W a1 n1 c1 b1 m1 d1 l es (some q)) (hc:n1≠1):
 Calls Tryz.prog 68 #[.agg #[.slice a1 n1 c1,.slice b1 m1 d1]] W (zE7 3 W):=by
 have KV:=zC (fun w (hb:Below W.heap.size W w)=>zM4 (h1.below hb));have hn:(n1:Int)≠1:=by omega
 clear h1;have h:=yUc W a1 n1 c1 b1 m1 d1;go_in;have x1:=h.out.1.c0;have y1:=h.out.1.c1;go_wp2_with fail
 with_reducible refine(yMf h (KV.out _ h.out.2)).mono ?_
 clear h x1 y1;rintro e w ⟨rfl,h⟩;have x1:=h.out.1.c0;have y1:=h.out.1.c1;go_wp2_with fail;go_ret;exact⟨rfl,h.out.2⟩
theorem zJa {a1 b1:Option Addr} {n1 c1 m1 d1:Nat} {l:List Int} {es:List ByteArray} {W:World} {q:Ar} (h1:Av W a1 n1 c1 b1 m1 d1 l es (some q)) (hc:n1=1):
 Calls Tryz.prog 68 #[.agg #[.slice a1 n1 c1,.slice b1 m1 d1]] W (zE7 0 W):=by
 have KV:=zC (fun w (hb:Below W.heap.size W w)=>zM4 (h1.below hb));clear h1;subst hc;have h:=yUc W a1 1 c1 b1 m1 d1;go_in;have x1:=h.out.1.c0;have y1:=h.out.1.c1;go_wp2_with fail
 with_reducible refine(yMf h (KV.out _ h.out.2)).mono ?_
 clear h x1 y1;rintro e w ⟨rfl,h⟩;have x1:=h.out.1.c0;have y1:=h.out.1.c1;go_wp2_with fail;go_ret;exact⟨rfl,h.out.2⟩
theorem zKa {a1 b1:Option Addr} {n1 c1 m1 d1:Nat} {l:List Int} {es:List ByteArray} {W:World} {o:Option Ar} (h1:Av W a1 n1 c1 b1 m1 d1 l es o):Calls Tryz.prog 68 #[.agg #[.slice a1 n1 c1,.slice b1 m1 d1]] W (zE7 (vcE o) W):=by
 cases o with
 |none=>exact zHa h1
 |some q=>
  have hl:q.1.length=n1:=by rw[h1.fst];exact h1.v.s.1
  by_cases h:n1=1
  · have e:vcE (some q)=0:=by unfold vcE;dsimp only;rw[zY yEn]
    rw[e];exact zJa h1 h
  · have e:vcE (some q)=3:=by unfold vcE;dsimp only;rw[yA yEn]
    rw[e];exact zIa h1 h
theorem zLa (a:Option Addr) (n c:Nat) (l:List Int) (W:World) (h:Sl W a n l) (hi:∀j,j<n→I64 (l.getD j 0)) (hn:n≤100000):
 Calls Tryz.prog 70 #[.slice a n c] W (yIb [(n:Int)] (l.map S) W):=by
 have HL:=zC h.1;have HV:=zC h;have KT:=zC (fun(k:Nat) (hk:k<n) w=>yQi (hi k hk) w);clear h hi;have hR0:=Bx.new W none 0 0 none 0 0;have hb0:Below W.heap.size W (W.alloc (.cells #[.slice none 0 0,.slice none 0 0] 25)):=(zI _ _).alloc (zR _) _;go_in;go_wp2_with fail;obtain⟨w1,hw1⟩:∃z,z=W.alloc (.cells #[.slice none 0 0,.slice none 0 0] 25):=⟨_,rfl⟩
 have hs1:w1.heap.size=W.heap.size+1:=by rw[hw1];simp
 rw[←hw1]at hR0 hb0 ⊢;have hS0:=(xY2 w1 (n:Int)).below (((zI _ _).alloc (zR _) _):Below (w1.alloc (.cells #[.int .i64 (n:Int)] 3)).heap.size _ ((w1.alloc (.cells #[.int .i64 (n:Int)] 3)).alloc (.cells #[.slice (some ⟨w1.heap.size,0,none⟩) 1 1,.slice none 0 0] 25)));have hO0:=Bx.newG (w1.alloc (.cells #[.int .i64 (n:Int)] 3)) (W.heap.size+2) (by simp[hs1]) (some ⟨w1.heap.size,0,none⟩) 1 1 none 0 0;have hb1:Below W.heap.size W ((w1.alloc (.cells #[.int .i64 (n:Int)] 3)).alloc (.cells #[.slice (some ⟨w1.heap.size,0,none⟩) 1 1,.slice none 0 0] 25)):=(hb0.alloc hb0.size _).alloc (by simp[hs1];omega) _;replace hR0:=(hR0.alloc (.cells #[.int .i64 (n:Int)] 3)).alloc (.cells #[.slice (some ⟨w1.heap.size,0,none⟩) 1 1,.slice none 0 0] 25);have hz1:W.heap.size+2+1≤((w1.alloc (.cells #[.int .i64 (n:Int)] 3)).alloc (.cells #[.slice (some ⟨w1.heap.size,0,none⟩) 1 1,.slice none 0 0] 25)).heap.size:=by simp[hs1]
 clear hb0 hw1;rw[hs1]at*;go_loopw [4] (fun iv wr=>∃(k:Nat) (bv:Option Addr) (dv:Nat),iv=.int .i64 k∧k≤n∧Bx wr (W.heap.size+2) (some ⟨W.heap.size+1,0,none⟩) 1 1 bv k dv∧wr.ownsRow (W.heap.size+2+1) 9 1 (.slice bv k dv) k (zTf ((l.take k).map S))∧Bx wr W.heap.size none 0 0 none 0 0∧Sl wr (some ⟨W.heap.size+1,0,none⟩) 1 [(n:Int)]∧Below W.heap.size W wr∧W.heap.size+2+1≤wr.heap.size) (fun iv _=>n-(intOf iv).toNat)
 case atStart=>exact⟨0,none,0,rfl,xJ _,hO0,zT _ _ _ _,hR0,hS0,hb1,hz1⟩
 case round=>
  obtain⟨k,bv,dv,rfl,hk,hO,ho,hR,hS,hb,hz⟩:=hrel;clear hR0 hO0 hS0 hb1 hz1;by_cases hlt:k<n
  · have e2:(k:Int)<(n:Int):=by omega
    obtain⟨bb,off,rfl,hc⟩:=HV.out.2 yEn;have hck:=(hb.cell (p:=⟨bb,off+k,none⟩) (yU W _ (hc k hlt))).trans (hc k hlt);have lck:=yU wr _ hck;have Q0:=KT.out k hlt;have HN:=zC (show zTf ((l.take (k+1)).map S)=zTf ((l.take k).map S)++[.string (S (l.getD k 0))]by rw[zK3 xTm];exact zA3 _ _);generalize S (l.getD k 0)=tx at*;generalize l.getD k 0=x at*;have HQ:Hid (∀z,Below wr.heap.size wr z→Calls Tryz.prog 113 #[.int .i64 x] z fun e w'=>e=.returned (.string tx)∧Below wr.heap.size wr w'):=zC fun z hzz=>(Q0 z).mono fun e w' h=>⟨h.1,hzz.trans (h.2.mono hzz.size)⟩
    have u1:=hO.c1;have lO:=hO.lt;have HO:=zC hO;have HR:=zC hR;have HW:=zC ho;have HS:=zC hS;have HB:=zC hb;have hq:Below wr.heap.size wr wr:=zI _ _;have hqz:=hq.size;obtain⟨wq,hwq⟩:∃z,z=wr:=⟨_,rfl⟩
    clear hO hR ho hS hb hc Q0;go_wp2_with fail;go_region_law (first|(go_simp;go_at_call 113;refine(HQ.out _ xLl).mono ?_;rintro e wq ⟨rfl,hq⟩;have hqz:=hq.size;have u2:=(HO.out.below hq lO).c1;have l2:=(HO.out.below hq lO).lt;have u3:=((HO.out.below hq lO).alloc (.cells #[.string tx] 9)).c1;have hck2:=(hq.cell (p:=⟨bb,off+k,none⟩) lck).trans hck)|(refine xZ2 wq (W.heap.size+2+1) (.tmp 16) (.tmp 22) bv k dv _ tx rfl rfl rfl rfl rfl rfl rfl rfl (zLe HW.out hq) yEn yEn ?_;intro av' cv' w9 hown9 hb9;have hO9:=HO.out.below ((hq.mono yEn).trans hb9) yEn;have z1:=hO9.c1;have g2:=hO9.f 1))
    all_goals
     rw[←HN.out]at hown9;have hbq:=(hq.mono (show W.heap.size+2+1≤wr.heap.size by omega)).trans hb9;have hb10:=HB.out.trans (hbq.mono yEn);have hO11:=zC (hO9.set1 av' (k+1) cv');have hr11:=zC (yRf hown9 (p:=⟨W.heap.size+2,1,none⟩) (zW _) (.slice av' (k+1) cv'));have hR11:=zC ((HR.out.below hbq yEn).setOther (p:=⟨W.heap.size+2,1,none⟩) (by show W.heap.size≠W.heap.size+2;omega) (.slice av' (k+1) cv'));have hS11:=zC (hO9.sl1 (HS.out.blk hbq (fun p hp _=>by injection hp with hp;rw[←hp];show W.heap.size+1<_;omega)) (.inr rfl) (.slice av' (k+1) cv'));have hb11:=zC (hb10.setCell (p:=⟨W.heap.size+2,1,none⟩) (show W.heap.size≤W.heap.size+2 by omega) (.slice av' (k+1) cv'));have hz11:W.heap.size+2+1≤w9.heap.size:=by have:=hbq.size;omega
     clear hO9 hb9 hown9 hb10 u1 z1 g2 hq HO HR HB HS HW hck lck hbq;go_wp2_with fail;go_roundw
     case rel=>exact⟨k+1,av',cv',by go_num,by omega,hO11.out,hr11.out,hR11.out,hS11.out,hb11.out,by simpa using hz11⟩
     case measure=>simp[intOf];omega
  · have e2:¬(k:Int)<(n:Int):=by omega
    obtain rfl:k=n:=by omega
    rw[yW xPm]at ho;have x0:=hO.c0;have x1:=hO.c1;have y0:=hR.c0;have y3:=hR.c1;have f0:=hR.f 0;have f1:=hR.f 1;have hst:=zC (zZf ho);have hcp:=zC (xE8 ho);clear ho hO;go_wp2_with fail;have hS2:=hR.set (some ⟨W.heap.size+1,0,none⟩) 1 1 bv k dv;have r0:=hS2.c0;have r1:=hS2.c1;exact zE (v:=.agg #[.slice (some ⟨W.heap.size+1,0,none⟩) 1 1,.slice bv k dv]) (by simp[results,Tryz.results70,go_sem,r0,r1]) rfl ⟨_,_,_,_,_,_,rfl,⟨hR.sl hS _ _,hR.st hst.out _ _,by omega⟩,⟨zR _,by unfold maxLen;omega,hcp.out.1,hcp.out.2⟩,yJ4 hb (zR _) _ _⟩
end
section
open Go.RowKit
def tlA (a:Option Addr) (c:Nat):Option Addr:=if c=1 then a else a.map (·.add 1)
theorem zMa {T e:TypeId} (ht:Tryz.prog.underlying T=some (.slice e)) (hs:∀w,(Go.sizeOf e).run Tryz.prog w=.ok 1 w) (a:Option Addr) (n c:Nat) (h1:1≤n) (h2:n≤c) (w:World):
 (Instr.slice T (.slice a n c) (some (.int .i64 1)) none none).run Tryz.prog w=.ok (.slice (tlA a c) (n-1) (c-1)) w:=by
 have h3:(1:Int)≤(n:Int):=by omega
 have h4:(n:Int)≤(c:Int):=by omega
 have h5:1≤c:=by omega
 by_cases hc:c=1
 · subst hc
   obtain rfl:n=1:=by omega
   simp[Instr.slice,Instr.sliceBounds,Instr.sliceBound,yZ0 ht,hs,asIntOf,tlA]
 · simp[Instr.slice,Instr.sliceBounds,Instr.sliceBound,yZ0 ht,hs,asIntOf,h1,h2,h3,h4,h5,hc,tlA]
theorem Sl.tl {W:World} {a:Option Addr} {n c:Nat} {l:List Int} (h:Sl W a n l) (h1:1≤n) (h2:n≤c):Sl W (tlA a c) (n-1) l.tail:=by
 by_cases hn:n=1
 · subst hn
   exact⟨by rw[yY,h.1],fun h0=>by omega⟩
 · have h3:=h.cut1 h1
   unfold xU3 at h3;rw[zY hn]at h3;unfold tlA;rw[zY yEn];exact h3
theorem zNa (O:List Nat) (x:Nat):yS9 (yE4 (O++[x]))=yS9 (yE4 O)++yS9 [(x:Int)]:=by simp[yE4,yS9]
theorem zOa (O A:List Nat):yS9 (yE4 (O++A))=yS9 (yE4 O)++yS9 (yE4 A):=by simp[yE4,yS9]
theorem zPa {sg x y:Int} (h:sg=1∨sg= -1):sg*(x-y).sign≤0↔sg*x≤sg*y:=by
 rcases h with rfl|rfl
 · rw[zF2,zF2,zF2]
   constructor
   · intro h
     have:=yH2 (a:=x-y);by_cases hc:0<x-y
     · rw[this.2 hc]at h;omega
     · omega
   · intro h
     rcases zY1 (x-y) 0 with hc|hc|hc
     · rw[yI2.2 hc];omega
     · rw[hc];simp
     · omega
 · rw[yJ2,yJ2,yJ2]
   constructor
   · intro h
     have:=yI2 (a:=x-y);by_cases hc:x-y<0
     · rw[this.2 hc]at h;omega
     · omega
   · intro h
     rcases zY1 (x-y) 0 with hc|hc|hc
     · omega
     · rw[hc];simp
     · rw[yH2.2 hc];omega
theorem zQa {ea aa ba:Option Addr} {en ec na ca nb cb:Nat} {vs:List Int} {A B:List Nat} {sg:Int} (W:World) (hE:St W ea en (vs.map S)) (hv:∀x∈vs,x.natAbs<lim) (hsg:sg=1∨sg= -1)
 (hA:Sl W aa na (yE4 A)) (hB:Sl W ba nb (yE4 B)) (hca:na≤ca) (hcm:ca≤maxLen) (hcb:nb≤cb) (hcn:cb≤maxLen) (hla:∀i∈A,i<en) (hlb:∀i∈B,i<en) (hab:na+nb≤100000):
 Calls Tryz.prog 149 #[.slice ea en ec,.slice aa na ca,.slice ba nb cb,.int .i64 sg] W (ClI (na+nb) (yE4 (mg (fun i=>sg*vs.getD i 0) A B)) W):=by
 have hel:vs.length=en:=by have:=hE.1;rwa [zD0]at this
 have hAl:A.length=na:=by have:=hA.1;rwa [zG8]at this
 have hBl:B.length=nb:=by have:=hB.1;rwa [zG8]at this
 obtain⟨f,hf⟩:∃f,f=fun i:Nat=>sg*vs.getD i 0:=⟨_,rfl⟩
 rw[←hf];have HF:=zC hf;have HE:=zC (And.intro hE hel);have KC:=zC (fun(x y:Nat)=>zWi (yF8 hv x) (yF8 hv y));have h0:∃(xa ya:Option Addr) (pa pb qa qb:Nat) (A' B' O:List Nat),(.slice aa na ca:Value)=.slice xa pa qa∧(.slice ba nb cb:Value)=.slice ya pb qb∧Sl W xa pa (yE4 A')∧Sl W ya pb (yE4 B')∧(pa≤qa∧qa≤maxLen∧pb≤qb∧qb≤maxLen)∧Hid (A'.length=pa∧B'.length=pb∧mg f A B=O++mg f A' B'∧(∀i∈A',i<en)∧∀i∈B',i<en)∧O.length+pa+pb=na+nb∧W.ownsRow W.heap.size 3 1 (.slice none 0 0) O.length (yS9 (yE4 O))∧Below W.heap.size W W:=
  ⟨aa,ba,na,nb,ca,cb,A,B,[],rfl,rfl,hA,hB,⟨hca,hcm,hcb,hcn⟩,zC ⟨hAl,hBl,rfl,hla,hlb⟩,by simp,zT _ _ _ _,zI _ _⟩
 clear hE hv hA hB hca hcm hcb hcn hla hlb hel hAl hBl hf;go_in;go_wp2_with fail;go_loopw [1,2,9] (fun av bv ov wr=>∃(xa ya:Option Addr) (pa pb qa qb:Nat) (A' B' O:List Nat),av=.slice xa pa qa∧bv=.slice ya pb qb∧Sl W xa pa (yE4 A')∧Sl W ya pb (yE4 B')∧(pa≤qa∧qa≤maxLen∧pb≤qb∧qb≤maxLen)∧Hid (A'.length=pa∧B'.length=pb∧mg f A B=O++mg f A' B'∧(∀i∈A',i<en)∧∀i∈B',i<en)∧O.length+pa+pb=na+nb∧wr.ownsRow W.heap.size 3 1 ov O.length (yS9 (yE4 O))∧Below W.heap.size W wr) (fun av bv _ _=>xR7 av+xR7 bv)
 case atStart=>exact h0
 case round=>
  clear h0;obtain⟨xa,ya,pa,pb,qa,qb,A',B',O,rfl,rfl,hA,hB,hcp,HM,hlen,hown,hbq⟩:=hrel;obtain⟨oa,oc,rfl⟩:=zWf hown;by_cases hpa:0<pa
  · by_cases hpb:0<pb
    · have e1:(0:Int)<(pa:Int):=by omega
      have e2:(0:Int)<(pb:Int):=by omega
      obtain⟨x,A2,rfl⟩:∃x r,A'=x::r:=by
       cases A' with
       |nil=>have:=HM.out.1;simp at this;omega
       |cons x r=>exact⟨x,r,rfl⟩
      obtain⟨y,B2,rfl⟩:∃y r,B'=y::r:=by
       cases B' with
       |nil=>have:=HM.out.2.1;simp at this;omega
       |cons y r=>exact⟨y,r,rfl⟩
      have hx:x<en:=HM.out.2.2.2.1 x (zO2 ..);have hy:y<en:=HM.out.2.2.2.2 y (zO2 ..);obtain⟨p1,o1,rfl,hc1⟩:=hA.2 hpa;obtain⟨p2,o2,rfl,hc2⟩:=hB.2 hpb;obtain⟨pe,oe,rfl,hce⟩:=HE.out.1.2 yEn;have k1:=hc1 0 hpa;have k2:=hc2 0 hpb;have k3:=hce x hx;have k4:=hce y hy;rw[show(yE4 (x::A2)).getD 0 0=(x:Int)from rfl,xB]at k1;rw[show(yE4 (y::B2)).getD 0 0=(y:Int)from rfl,xB]at k2;rw[yE8 (by rw[HE.out.2];exact hx)]at k3;rw[yE8 (by rw[HE.out.2];exact hy)]at k4;have HK:Hid (∀z,Below W.heap.size W z→z.cell? ⟨p1,o1,none⟩=some (.int .i64 (x:Int))∧z.cell? ⟨p2,o2,none⟩=some (.int .i64 (y:Int))∧z.cell? ⟨pe,oe+x,none⟩=some (.string (S (vs.getD x 0)))∧z.cell? ⟨pe,oe+y,none⟩=some (.string (S (vs.getD y 0)))):=zC fun z hz=>⟨(hz.cell (yU W _ k1)).trans k1,(hz.cell (yU W _ k2)).trans k2,(hz.cell (yU W _ k3)).trans k3,(hz.cell (yU W _ k4)).trans k4⟩
      have KQ:=KC.out x y;have hle:sg*(vs.getD x 0-vs.getD y 0).sign≤0↔f x≤f y:=by rw[HF.out];exact zPa hsg
      obtain⟨z,hz⟩:∃z,z=(vs.getD x 0-vs.getD y 0).sign:=⟨_,rfl⟩
      have hzr: -1≤z∧z≤1:=by
       rw[hz];rcases zY1 (vs.getD x 0-vs.getD y 0) 0 with h|h|h
       · rw[yI2.2 h];omega
       · rw[h];simp
       · rw[yH2.2 h];omega
      rw[←hz]at KQ hle;clear hz hc1 hc2 hce k1 k2 k3 k4;generalize S (vs.getD x 0)=tx at*;generalize S (vs.getD y 0)=ty at*;obtain⟨v,hv⟩:∃v,v=sg*z:=⟨_,rfl⟩
      have hw:IntKind.i64.wrap (sg*z)=v:=by rw[hv];exact xJ0 _ (by rcases hsg with rfl|rfl<;>omega)
      rw[←hv]at hle;clear hv;have hr1:=zMa Tryz.underlying22 xW3 (some ⟨p1,o1,none⟩) pa qa hpa hcp.1;have hr2:=zMa Tryz.underlying22 xW3 (some ⟨p2,o2,none⟩) pb qb hpb hcp.2.2.1;have tA:=zC (hA.tl hpa hcp.1);have tB:=zC (hB.tl hpb hcp.2.2.1);rw[show(yE4 (x::A2)).tail=yE4 A2 from rfl]at tA;rw[show(yE4 (y::B2)).tail=yE4 B2 from rfl]at tB;obtain⟨ta,hta⟩:∃t,t=tlA (some ⟨p1,o1,none⟩) qa:=⟨_,rfl⟩
      obtain⟨tb,htb⟩:∃t,t=tlA (some ⟨p2,o2,none⟩) qb:=⟨_,rfl⟩
      rw[←hta]at hr1 tA;rw[←htb]at hr2 tB;have HAA:=zC hA;have HBB:=zC hB;have HO:=zC hown;have exi:(0:Int)≤(x:Int):=by omega
      have exu:(x:Int)<(en:Int):=by omega
      have eyi:(0:Int)≤(y:Int):=by omega
      have eyu:(y:Int)<(en:Int):=by omega
      have Q1:Hid (∀zz,Below wr.heap.size wr zz→Calls Tryz.prog 128 #[.string tx,.string ty] zz fun e w'=>e=.returned (.int .i64 z)∧Below wr.heap.size wr w'):=zC fun zz hzz=>(KQ zz).mono fun e w' k=>⟨k.1,hzz.trans (k.2.mono hzz.size)⟩
      have hq:Below wr.heap.size wr wr:=zI _ _;have hqz:=hq.size;have HBQ:=zC hbq;have HK2:Hid (∀z,Below wr.heap.size wr z→z.cell? ⟨p1,o1,none⟩=some (.int .i64 (x:Int))∧z.cell? ⟨p2,o2,none⟩=some (.int .i64 (y:Int))∧z.cell? ⟨pe,oe+x,none⟩=some (.string tx)∧z.cell? ⟨pe,oe+y,none⟩=some (.string ty)):=zC fun z hz=>HK.out z (HBQ.out.trans (hz.mono HBQ.out.size));have hcx:=HK2.out wr hq;obtain⟨c1,c2,c3,c4⟩:=hcx;clear hA hB hown hbq hta htb KQ;go_wp2_with fail;go_region_held3 (fun w'=>w'.cell? ⟨p1,o1,none⟩=some (.int .i64 (x:Int))∧w'.cell? ⟨p2,o2,none⟩=some (.int .i64 (y:Int))∧w'.cell? ⟨pe,oe+x,none⟩=some (.string tx)∧w'.cell? ⟨pe,oe+y,none⟩=some (.string ty))
       (first|exact HK2.out _ xJl|fail)
       (first
         |(go_at_call 128;(with_reducible refine(Q1.out _ xJl).mono ?_);rintro e wa ⟨rfl,hq⟩;have hqz:=hq.size)
         |fail)
      all_goals
       have hb5:=zC (HBQ.out.trans (hq.mono HBQ.out.size));obtain⟨c1,c2,_,_⟩:=HK.out _ hb5.out;have ho5:=zLe HO.out hq;clear HK2 Q1 hq HO;by_cases hff:f x≤f y
       · have hv0:v≤0:=hle.2 hff
         have ho2:=zC (ho5.alloc (.cells #[.int .i64 (x:Int)] 3));have hr5:=zC (yGf (yKb wa (x:Int)));have hsz5:=hb5.out.size;clear ho5 c2;go_upto_region 5 with(at_builtin;refine yDf rfl (.tmp 34) (.tmp 38) 22 rfl W.heap.size 3 (.int .i64 0) 8 Tryz.underlying22 xB4 rfl yCn _ O.length _ rfl ho2.out _ 1 1 (yS9 [(x:Int)]) rfl hr5.out (zUf _) yEn zZn ?_;intro av' cv' w3 hown3 hg3)
         have hb6:Below W.heap.size W w3:=(hb5.out.alloc hb5.out.size _).trans (yHf hg3 (fun g' hg'=>(ho2.out.lt g' hg').1) zZn);rw[←zNa]at hown3;clear hg3 ho2 hr5;go_wp2_with fail;go_roundw
         case rel=>exact⟨ta,_,pa-1,pb,qa-1,qb,A2,y::B2,O++[x],rfl,rfl,tA.out,HBB.out,⟨by omega,by omega,hcp.2.2.1,hcp.2.2.2⟩,zC ⟨by have:=HM.out.1;simp at this;omega,HM.out.2.1,by rw[HM.out.2.2.1,yId hff,xA];rfl,fun i hi=>HM.out.2.2.2.1 i (zN2 _ hi),HM.out.2.2.2.2⟩,by simp;omega,by rw[zC0];exact hown3,hb6⟩
         case measure=>simp[xR7];omega
       · have hv0:¬v≤0:=fun h=>hff (hle.1 h)
         have ho2:=zC (ho5.alloc (.cells #[.int .i64 (y:Int)] 3));have hr5:=zC (yGf (yKb wa (y:Int)));have hsz5:=hb5.out.size;clear ho5 c1;go_upto_region 7 with(at_builtin;refine yDf rfl (.tmp 42) (.tmp 46) 22 rfl W.heap.size 3 (.int .i64 0) 8 Tryz.underlying22 xB4 rfl yCn _ O.length _ rfl ho2.out _ 1 1 (yS9 [(y:Int)]) rfl hr5.out (zUf _) yEn zZn ?_;intro av' cv' w3 hown3 hg3)
         have hb6:Below W.heap.size W w3:=(hb5.out.alloc hb5.out.size _).trans (yHf hg3 (fun g' hg'=>(ho2.out.lt g' hg').1) zZn);rw[←zNa]at hown3;clear hg3 ho2 hr5;go_wp2_with fail;go_roundw
         case rel=>exact⟨_,tb,pa,pb-1,qa,qb-1,x::A2,B2,O++[y],rfl,rfl,HAA.out,tB.out,⟨hcp.1,hcp.2.1,by omega,by omega⟩,zC ⟨HM.out.1,by have:=HM.out.2.1;simp at this;omega,by rw[HM.out.2.2.1,yJd hff,xA];rfl,HM.out.2.2.2.1,fun i hi=>HM.out.2.2.2.2 i (zN2 _ hi)⟩,by simp;omega,by rw[zC0];exact hown3,hb6⟩
         case measure=>simp[xR7];omega
    · have e1:(0:Int)<(pa:Int):=by omega
      have e2:¬((0:Int)<(pb:Int)):=by omega
      have HG:Hid (mg f A B=O++A'++B'):=zC (by
       have:B'=[]:=yR1 (by rw[HM.out.2.1];omega);rw[HM.out.2.2.1,this,yHd,xL])
      have hr1:=zC (hA.below hbq).rd;have hr2:=zC (fun w (hb:Below W.heap.size W w)=>(hB.below hb).rd);have ho2:=zC hown;have hbs:=hbq.size;have HBQ:=zC hbq;clear hA hB hown hbq;go_upto_region 9 with(at_builtin;refine yDf rfl (.tmp 50) (.tmp 51) 22 rfl W.heap.size 3 (.int .i64 0) 8 Tryz.underlying22 xB4 rfl yCn _ O.length _ rfl ho2.out _ pa _ (yS9 (yE4 A')) rfl hr1.out (zUf _) yEn hbs ?_;intro av' cv' w3 hown3 hg3)
      have hb6:Hid (Below W.heap.size W w3):=zC (HBQ.out.trans (yHf hg3 (fun g' hg'=>(ho2.out.lt g' hg').1) hbs));have hr3:=zC (hr2.out w3 hb6.out);have ho3:=zC hown3;have hbs3:=hb6.out.size;clear hg3 ho2 hr1 hr2 hown3 HBQ;go_wp2_with (at_builtin;refine yDf rfl (.tmp 53) (.tmp 54) 22 rfl W.heap.size 3 (.int .i64 0) 8 Tryz.underlying22 xB4 rfl yCn _ (O.length+pa) _ rfl ho3.out _ pb _ (yS9 (yE4 B')) rfl hr3.out (zUf _) yEn hbs3 ?_;intro av'' cv'' w4 hown4 hg4)
      have hb7:Below W.heap.size W w4:=hb6.out.trans (yHf hg4 (fun g' hg'=>(ho3.out.lt g' hg').1) hbs3);rw[←zOa,←zOa,←HG.out,hlen]at hown4
      try rw[hlen]
      go_ret;exact⟨av'',cv'',rfl,hown4,hb7⟩
  · have e1:¬((0:Int)<(pa:Int)):=by omega
    have HG:Hid (mg f A B=O++A'++B'):=zC (by
     have:A'=[]:=yR1 (by rw[HM.out.1];omega);rw[HM.out.2.2.1,this,yGd,xL])
    have hr1:=zC (hA.below hbq).rd;have hr2:=zC (fun w (hb:Below W.heap.size W w)=>(hB.below hb).rd);have ho2:=zC hown;have hbs:=hbq.size;have HBQ:=zC hbq;clear hA hB hown hbq;go_upto_region 9 with(at_builtin;refine yDf rfl (.tmp 50) (.tmp 51) 22 rfl W.heap.size 3 (.int .i64 0) 8 Tryz.underlying22 xB4 rfl yCn _ O.length _ rfl ho2.out _ pa _ (yS9 (yE4 A')) rfl hr1.out (zUf _) yEn hbs ?_;intro av' cv' w3 hown3 hg3)
    have hb6:Hid (Below W.heap.size W w3):=zC (HBQ.out.trans (yHf hg3 (fun g' hg'=>(ho2.out.lt g' hg').1) hbs));have hr3:=zC (hr2.out w3 hb6.out);have ho3:=zC hown3;have hbs3:=hb6.out.size;clear hg3 ho2 hr1 hr2 hown3 HBQ;go_wp2_with (at_builtin;refine yDf rfl (.tmp 53) (.tmp 54) 22 rfl W.heap.size 3 (.int .i64 0) 8 Tryz.underlying22 xB4 rfl yCn _ (O.length+pa) _ rfl ho3.out _ pb _ (yS9 (yE4 B')) rfl hr3.out (zUf _) yEn hbs3 ?_;intro av'' cv'' w4 hown4 hg4)
    have hb7:Below W.heap.size W w4:=hb6.out.trans (yHf hg4 (fun g' hg'=>(ho3.out.lt g' hg').1) hbs3);rw[←zOa,←zOa,←HG.out,hlen]at hown4
    try rw[hlen]
    go_ret;exact⟨av'',cv'',rfl,hown4,hb7⟩
theorem zRa {ea:Option Addr} {en ec:Nat} {vs:List Int} {sg:Int} (hv:∀x∈vs,x.natAbs<lim) (hsg:sg=1∨sg= -1) (hen:en≤4096):∀(k p q:Nat),q-p≤k→q≤en→p≤4096→∀W,St W ea en (vs.map S)→
 Calls Tryz.prog 118 #[.slice ea en ec,.int .i64 (p:Int),.int .i64 (q:Int),.int .i64 sg] W fun e W'=>∃L,Orr (fun i=>sg*vs.getD i 0) p q L∧ClI (q-p) (yE4 L) W e W':=by
 intro k;induction k with
 |zero=>
  intro p q hk hq hp W _;have e1:(q:Int)≤(p:Int):=by omega
  have e2:q-p=0:=by omega
  rw[e2];go_in;go_wp2_with fail;go_ret;exact⟨[],Orr.none yEn,none,0,rfl,zT _ _ _ _,zI _ _⟩
 |succ k ih=>
  intro p q hk hq hp W hE;by_cases h1:q≤p
  · have e1:(q:Int)≤(p:Int):=by omega
    have e2:q-p=0:=by omega
    rw[e2];clear ih hE;go_in;go_wp2_with fail;go_ret;exact⟨[],Orr.none yEn,none,0,rfl,zT _ _ _ _,zI _ _⟩
  · have e1:¬((q:Int)≤(p:Int)):=by omega
    by_cases h2:p+1=q
    · subst h2
      clear ih hE;have e2:p+1-p=1:=by omega
      rw[e2];have HN:=zC (yKb W (p:Int));go_in;go_wp2_with fail;go_ret;exact⟨[p],Orr.one,_,_,rfl,HN.out,(zI _ _).alloc (zR _) _⟩
    · have e2:¬((p:Int)+1=(q:Int)):=by omega
      obtain⟨m,hm⟩:∃m,m=(p+q)/2:=⟨_,rfl⟩
      have hq2:((p:Int)+(q:Int))/2=(m:Int):=by omega
      have I1:=zC (ih p m yEn yEn hp W hE);have I2:=zC (fun w (hb:Below W.heap.size W w)=>ih m q yEn hq yEn w (hE.below hb));have HE:=zC hE;have HP:=zC (show p≤m∧m≤q from by omega);have HM:=zC hm;clear ih hE hm;go_in;go_wp2_with fail;refine I1.out.mono ?_;rintro e w1 ⟨L1,ho1,a1,c1,rfl,hs1,hb1⟩;have K2:=zC (I2.out w1 hb1);go_wp2_with fail;refine K2.out.mono ?_;rintro e w2 ⟨L2,ho2,a2,c2,rfl,hs2,hb2⟩;have hb:=hb1.trans (hb2.mono hb1.size);have K3:=zC (zQa (ec:=ec) (ca:=c1) (cb:=c2) w2 (HE.out.below hb) hv hsg (zYf (zLe hs1 hb2)) (zYf hs2) (xE8 hs1).1 (xE8 hs1).2 (xE8 hs2).1 (xE8 hs2).2 (fun i hi=>by have:=(ho1.all i).1 hi;have:=HP.out;omega) (fun i hi=>by have:=(ho2.all i).1 hi;omega) yEn);rw[show m-p+(q-m)=q-p by have:=HP.out;omega]at K3;have HO:=zC (Orr.merged HP.out.1 HP.out.2 ho1 ho2);have HB:=zC hb;clear hs1 hs2 hb hb1 hb2 ho1 ho2 I1 I2 K2;go_wp2_with fail;refine K3.out.mono ?_;rintro e w3 ⟨a3,c3,rfl,hs3,hb3⟩;go_wp2_with fail;go_ret;exact⟨_,HO.out,_,_,rfl,yFf hs3 HB.out.size,HB.out.trans (hb3.mono HB.out.size)⟩
end
section
open Go.RowKit
theorem zSa {o:Option Ar} {sg:Int} (h:vcE o≠0):upK sg o=(none,vcE o):=by
 cases o with
 |none=>rfl
 |some v=>
  unfold vcE at h ⊢;unfold upK;dsimp only at h ⊢
  by_cases hl:v.1.length≠1
  · rw[yA hl,yA hl]
  · rw[zY hl]at h;exact absurd rfl h
theorem zTa {o:Option Ar} (h:vcE o≠0):whK o=(none,vcE o):=by
 cases o with
 |none=>rfl
 |some v=>
  unfold vcE at h ⊢;unfold whK;dsimp only at h ⊢
  by_cases hl:v.1.length≠1
  · rw[yA hl,yA hl]
  · rw[zY hl]at h;exact absurd rfl h
theorem zUa {o:Option Ar} (h:vcE o=0):∃v,o=some v∧v.1.length=1:=by
 cases o with
 |none=>cases h
 |some v=>
  unfold vcE at h;dsimp only at h
  by_cases hl:v.1.length≠1
  · rw[yA hl]at h;cases h
  · exact⟨v,rfl,by omega⟩
theorem zVa {a1 b1:Option Addr} {n1 c1 m1 d1:Nat} {l:List Int} {es:List ByteArray} {W:World} {o:Option Ar} {sg:Int} (h1:Av W a1 n1 c1 b1 m1 d1 l es o) (hv:vcE o≠0):
 Calls Tryz.prog 67 #[.agg #[.slice a1 n1 c1,.slice b1 m1 d1],.int .i64 sg] W (xL3 (none,vcE o) W):=by
 have KC:=zC (fun w (hb:Below W.heap.size W w)=>zKa (h1.below hb));generalize vcE o=k at*;have hk:(k != 0)=true:=by simpa using hv
 clear h1 hv;have h:=xO3 W a1 n1 c1 b1 m1 d1;go_in;have x1:=h.out.2.1.c0;have y1:=h.out.2.1.c1;go_wp2_with fail
 with_reducible refine(yMf h (KC.out _ h.out.2.2)).mono ?_
 clear h x1 y1;rintro e w ⟨rfl,h⟩;have y0:=h.out.1.c0;have y3:=h.out.1.c1;have f0:=h.out.1.f 0;have f1:=h.out.1.f 1;go_wp2_with fail;have hR:=h.out.1.set none 0 0 none 0 0;have r0:=hR.c0;have r1:=hR.c1;exact zE (v:=.tuple #[.agg #[.slice none 0 0,.slice none 0 0],.int .i64 k]) zUm rfl (xN3 h.out.1 h.out.2.2 yEn)
theorem zWa {a1 b1:Option Addr} {n1 c1 m1 d1:Nat} {l:List Int} {es:List ByteArray} {W:World} {q:Ar} {sg:Int} (h1:Av W a1 n1 c1 b1 m1 d1 l es (some q)) (hv:vcE (some q)=0) (hsg:sg=1∨sg= -1):
 Calls Tryz.prog 67 #[.agg #[.slice a1 n1 c1,.slice b1 m1 d1],.int .i64 sg] W (xL3 (some ([(q.2.length:Int)],yE4 (orL (fun i=>sg*q.2.getD i 0) q.2.length)),0) W):=by
 have KC:=zC (fun w (hb:Below W.heap.size W w)=>zKa (h1.below hb));rw[hv]at KC;have hm4:=h1.mlen.2.2;have hml:=h1.mlen.1;obtain⟨f,hf⟩:∃f,f=fun i:Nat=>sg*q.2.getD i 0:=⟨_,rfl⟩
 have KH:=zC (fun w (hb:Below W.heap.size W w)=>(show Calls Tryz.prog 118 #[.slice b1 m1 d1,.int .i64 0,.int .i64 (m1:Int),.int .i64 sg] w fun e w'=>∃a c,e=.returned (.slice a m1 c)∧Sl w' a m1 (yE4 (orL f m1))∧Below w.heap.size w w' from by
  have hs:=h1.v.t.below hb;rw[h1.i.2.1]at hs;refine(zRa (ec:=d1) h1.i.2.2.2 hsg hm4 m1 0 m1 yEn (zR _) yEn w hs).mono fun e w' h=> ?_;obtain⟨L,ho,a,c,k1,k2,k3⟩:=h;rw[←hf]at ho;rw[yD4 ho.ord];exact⟨a,c,k1,k2.sl,k3⟩))
 have KI:=zC (fun w a c (hs:Sl w a m1 (yE4 (orL f m1)))=>zLa a m1 c (yE4 (orL f m1)) w hs (fun j hj=>by
  have hl:j<(orL f m1).length:=by rw[zQ8];exact hj
  have h5:=zP8 (f:=f) (n:=m1) _ (xH hl);rw[yJ,yE4,xS0,yM hl];show I64 ((orL f m1)[j]:Int);unfold I64;omega) yEn)
 have HR:=zC (zI8 f hm4);have HF:=zC hf;have HM:=zC hml;clear h1 hv hf hml;have h:=xO3 W a1 n1 c1 b1 m1 d1;go_in;have x1:=h.out.2.1.c0;have y1:=h.out.2.1.c1;go_wp2_with fail
 with_reducible refine(yMf h (KC.out _ h.out.2.2)).mono ?_
 clear h x1 y1;rintro e w ⟨rfl,h⟩;have x1:=h.out.2.1.c0;have y1:=h.out.2.1.c1;go_wp2_with fail;refine(KH.out _ h.out.2.2).mono ?_;rintro e w2 ⟨la,lc,rfl,hs,hb⟩;replace h:=xVf h hb;have HS:=zC hs;clear hs hb x1 y1;have y0:=h.out.1.c0;have y3:=h.out.1.c1;have f0:=h.out.1.f 0;have f1:=h.out.1.f 1;go_wp2_with fail
 with_reducible refine(yWc h (KI.out _ _ lc HS.out)).mono ?_
 clear h y0 y3 f0 f1;rintro e w ⟨ar,nr,cr,br,mr,dr,rfl,h,hv,hc⟩;have y0:=h.out.1.c0;have y3:=h.out.1.c1;have f0:=h.out.1.f 0;have f1:=h.out.1.f 1;go_wp2_with fail;have hR:=h.out.1.set ar nr cr br mr dr;have r0:=hR.c0;have r1:=hR.c1;exact zE (v:=.tuple #[.agg #[.slice ar nr cr,.slice br mr dr],.int .i64 0]) zUm rfl (by
  rw[←HM.out,←HF.out];exact xM3 (r:=(some ([(m1:Int)],yE4 (orL f m1)),0)) h.out.1 h.out.2.2 yEn hv hc HR.out)
theorem zXa {a1 b1:Option Addr} {n1 c1 m1 d1:Nat} {l:List Int} {es:List ByteArray} {W:World} {o:Option Ar} {sg:Int} (h1:Av W a1 n1 c1 b1 m1 d1 l es o) (hsg:sg=1∨sg= -1):Calls Tryz.prog 67 #[.agg #[.slice a1 n1 c1,.slice b1 m1 d1],.int .i64 sg] W (xL3 (upK sg o) W):=by
 by_cases hv:vcE o=0
 · obtain⟨q,rfl,hl⟩:=zUa hv
   rw[zO8 sg hl];exact zWa h1 hv hsg
 · rw[zSa hv];exact zVa h1 hv
theorem zYa {a1 b1:Option Addr} {n1 c1 m1 d1:Nat} {l:List Int} {es:List ByteArray} {W:World} {o:Option Ar} (h1:Av W a1 n1 c1 b1 m1 d1 l es o):Calls Tryz.prog 27 #[.agg #[.slice a1 n1 c1,.slice b1 m1 d1]] W (xL3 (upK 1 o) W):=by
 have KO:=zC (fun w (hb:Below W.heap.size W w)=>zXa (sg:=1) (h1.below hb) yHn);clear h1;generalize upK 1 o=R at*;obtain⟨ro,rk⟩:=R;have h:=xO3 W a1 n1 c1 b1 m1 d1;go_in;have x1:=h.out.2.1.c0;have y1:=h.out.2.1.c1;have y0:=h.out.1.c0;have y3:=h.out.1.c1;have f0:=h.out.1.f 0;have f1:=h.out.1.f 1;go_wp2_with fail;refine(KO.out _ h.out.2.2).mono ?_;clear y0 y3 f0 f1 x1 y1;rintro e w ⟨ar,nr,cr,br,mr,dr,rfl,hA,hb⟩;replace h:=xVf h hb;have y0:=h.out.1.c0;have y3:=h.out.1.c1;have f0:=h.out.1.f 0;have f1:=h.out.1.f 1;go_wp2_with fail;have hR:=h.out.1.set ar nr cr br mr dr;have r0:=hR.c0;have r1:=hR.c1;exact zE (v:=.tuple #[.agg #[.slice ar nr cr,.slice br mr dr],.int .i64 rk]) (by simp[results,Tryz.results27,go_sem,r0,r1]) rfl ⟨_,_,_,_,_,_,rfl,⟨⟨h.out.1.sl hA.v.s _ _,h.out.1.st hA.v.t _ _,hA.v.mm⟩,hA.c,hA.z,hA.i⟩,yJ4 h.out.2.2 yEn _ _⟩
theorem zZa {a1 b1:Option Addr} {n1 c1 m1 d1:Nat} {l:List Int} {es:List ByteArray} {W:World} {o:Option Ar} (h1:Av W a1 n1 c1 b1 m1 d1 l es o):Calls Tryz.prog 28 #[.agg #[.slice a1 n1 c1,.slice b1 m1 d1]] W (xL3 (upK (-1) o) W):=by
 have KO:=zC (fun w (hb:Below W.heap.size W w)=>zXa (sg:= -1) (h1.below hb) yHn);clear h1;generalize upK (-1) o=R at*;obtain⟨ro,rk⟩:=R;have h:=xO3 W a1 n1 c1 b1 m1 d1;go_in;have x1:=h.out.2.1.c0;have y1:=h.out.2.1.c1;have y0:=h.out.1.c0;have y3:=h.out.1.c1;have f0:=h.out.1.f 0;have f1:=h.out.1.f 1;go_wp2_with fail;refine(KO.out _ h.out.2.2).mono ?_;clear y0 y3 f0 f1 x1 y1;rintro e w ⟨ar,nr,cr,br,mr,dr,rfl,hA,hb⟩;replace h:=xVf h hb;have y0:=h.out.1.c0;have y3:=h.out.1.c1;have f0:=h.out.1.f 0;have f1:=h.out.1.f 1;go_wp2_with fail;have hR:=h.out.1.set ar nr cr br mr dr;have r0:=hR.c0;have r1:=hR.c1;exact zE (v:=.tuple #[.agg #[.slice ar nr cr,.slice br mr dr],.int .i64 rk]) (by simp[results,Tryz.results28,go_sem,r0,r1]) rfl ⟨_,_,_,_,_,_,rfl,⟨⟨h.out.1.sl hA.v.s _ _,h.out.1.st hA.v.t _ _,hA.v.mm⟩,hA.c,hA.z,hA.i⟩,yJ4 h.out.2.2 yEn _ _⟩
end
end Go.Proofs.YtcfbjdplhgdpfaaGreatDoor

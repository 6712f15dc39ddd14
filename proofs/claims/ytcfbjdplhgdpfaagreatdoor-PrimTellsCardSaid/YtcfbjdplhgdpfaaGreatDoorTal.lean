import Derived.Test.YtcfbjdplhgdpfaaGreatDoorTak
set_option maxHeartbeats 3200000
set_option maxRecDepth 100000
namespace Go.Proofs.YtcfbjdplhgdpfaaGreatDoor
set_option linter.unusedVariables false
set_option linter.unusedSimpArgs false
theorem yBn {P:Prop}(h:P:=by simp[WL]):P:=h
theorem yAn {P:Prop}(h:P:=by simp[RL]):P:=h
theorem xGm {P:Prop}(h:P:=by injection e with e;exact e.symm):P:=h
theorem xRl {P:Prop}(h:P:=by simp only[yW1];exact⟨⟨_,yV1 Tryz.underlying9 yCn⟩,fun _ h=>by cases h⟩):P:=h
theorem xNl {P:Prop}(h:P:=by simp only[yW1];exact⟨⟨_,yV1 Tryz.underlying9 yCn⟩,⟨_,yV1 Tryz.underlying9 yCn⟩,fun _ h=>by cases h⟩):P:=h
theorem xIl {P:Prop}(h:P:=by simp only[yW1];exact⟨⟨_,yV1 Tryz.underlying9 yCn⟩,⟨_,yV1 Tryz.underlying9 yCn⟩,⟨_,yV1 Tryz.underlying9 yCn⟩,fun _ h=>by cases h⟩):P:=h
theorem xFl {P:Prop}(h:P:=by simp only[yW1];exact⟨⟨_,yV1 Tryz.underlying9 yCn⟩,⟨_,yV1 Tryz.underlying9 yCn⟩,⟨_,yV1 Tryz.underlying9 yCn⟩,⟨_,yV1 Tryz.underlying9 yCn⟩,fun _ h=>by cases h⟩):P:=h
abbrev yW1:=@List.forall_mem_cons
section
open Go.RowKit Go.Maps Go.MapKept Go.WideMaps
def zL7:List (ByteArray×Value):=[(⟨#[33]⟩,.func (.func 46) #[] #[]),(⟨#[35]⟩,.func (.func 47) #[] #[]),(⟨#[61]⟩,.func (.func 48) #[] #[]),(⟨#[44]⟩,.func (.func 49) #[] #[]),(⟨#[124]⟩,.func (.func 50) #[] #[]),(⟨#[43]⟩,.func (.func 51) #[] #[]),(⟨#[60]⟩,.func (.func 52) #[] #[]),(⟨#[62]⟩,.func (.func 53) #[] #[]),(⟨#[38]⟩,.func (.func 54) #[] #[]),(⟨#[63]⟩,.func (.func 55) #[] #[])]
def zM7 (s:ByteArray):List (ByteArray×Value):=[45,126,42].map fun c=>(⟨#[c]⟩,.func (.func 57) #[.string s] #[])
def zN7 (s:ByteArray):List (ByteArray×Value):=zL7++zM7 s
def zO7 (s:ByteArray) (W:World) (e:Ending) (W':World):Prop:=∃b,e=.returned (.map (some b))∧Mq W' b (sq (zN7 s))∧Below W.heap.size W W'
theorem zP7 (s:ByteArray) {k:Nat} (hk:k<3):∃c:UInt8,(⟨#[45,126,42]⟩:ByteArray)[k]'hk=c∧c.toNat<128∧Utf8.encode (c.toNat:Int)=⟨#[c]⟩∧shK (((⟨#[c]⟩:ByteArray),.bool true)::(zL7++(zM7 s).take k))=true∧xSd (zL7++(zM7 s).take k) ⟨#[c]⟩=[]∧
 (zL7++(zM7 s).take k)++[((⟨#[c]⟩:ByteArray),.func (.func 57) #[.string s] #[])]=zL7++(zM7 s).take (k+1):=by
 match k,hk with
 | 0,_=>exact⟨45,rfl,by decide,by kernel_rfl,rfl,rfl,rfl⟩
 | 1,_=>exact⟨126,rfl,by decide,by kernel_rfl,rfl,rfl,rfl⟩
 | 2,_=>exact⟨42,rfl,by decide,by kernel_rfl,rfl,rfl,rfl⟩
theorem zQ7 (s:ByteArray) {W:World} (hW:SM W):Calls Tryz.prog 19 #[.string s] W (zO7 s W):=by
 have hmm:=@run_makeMap Tryz.prog;have hmf:∀(fn:Fn) (first cap:Array Value) (w:World),(Instr.makeFunc fn first cap).run Tryz.prog w=.ok (.func fn first cap) w:=fun _ _ _ _=>rfl;have hT:Mq (W.alloc (.map #[] 0)) W.heap.size (sq []):=Mq.made W;have hB:Below W.heap.size W (W.alloc (.map #[] 0)):=(zI _ _).alloc (zR _) _;have KM:=zC fun w (h:Below W.heap.size W w)=>zKl w (hW.below h);clear hW;go_in;go_wp2_with (first|(refine xZd rfl _ _ _ rfl Tryz.underlying45 Tryz.underlying30 rfl hT _ rfl rfl rfl rfl ?_;clear hT;intro w1 hT hg;replace hB:=yO6 hB hg (zR _) hB.size;clear hg)|fail)
 have HT:Hid (Mq w1 W.heap.size (sq zL7)):=zC hT;clear hT;refine(KM.out _ hB).mono ?_;rintro e w2 ⟨rfl,hq⟩;have hT2:=HT.out.below (hq.mono (zR _));have hB2:=hB.trans (hq.mono hB.size);have hlt:=hT2.lt;have hT3:Mq (w2.iter ⟨#[45,126,42]⟩ 0) W.heap.size (sq (zL7++(zM7 s).take 0)):=hT2.below ((zI _ _).alloc (zR _) _);have hB3:Below W.heap.size W (w2.iter ⟨#[45,126,42]⟩ 0):=hB2.alloc hB2.size _;have hI3:=World.iter_heap w2 ⟨#[45,126,42]⟩ 0;have H3:=zC (And.intro hT3 (And.intro hB3 hI3));clear hT2 hB2 hT3 hB3 hI3 hB hq HT KM;go_wp2_with fail;go_loopw [] (fun wr=>∃k:Nat,k≤3∧wr.heap[w2.heap.size]?=some (.stringIter ⟨#[45,126,42]⟩ k)∧Mq wr W.heap.size (sq (zL7++(zM7 s).take k))∧Below W.heap.size W wr) (fun wr=>3-wr.iterPos w2.heap.size)
 case atStart=>exact⟨0,xJ _,H3.out.2.2,H3.out.1,H3.out.2.1⟩
 case round=>
  obtain⟨k,hk,hI,hT,hB⟩:=hrel;by_cases hlt2:k<3
  · obtain⟨c,hc,h128,hen,hs,hn,hL⟩:=zP7 s hlt2
    have hnext:∀ty,(Instr.next (.pointer (some ⟨w2.heap.size,0,none⟩)) true ty).run Tryz.prog wr=_:=fun ty=>Lib.run_next_ascii_at wr w2.heap.size ⟨#[45,126,42]⟩ k ty hI hlt2 (by rw[hc];exact h128);rw[hc]at hnext;have hI1:=Lib.iterAt_heap wr w2.heap.size ⟨#[45,126,42]⟩ k (k+1) hI;have hT1:=hT.iterAt (Nat.ne_of_lt hlt) ⟨#[45,126,42]⟩ (k+1);have hB1:=Lib.below_iterAt hB (xT hlt) ⟨#[45,126,42]⟩ (k+1);have hmu:wr.iterPos w2.heap.size=k:=by simp[World.iterPos,hI]
    generalize wr.iterAt w2.heap.size ⟨#[45,126,42]⟩ (k+1)=w4 at hnext hI1 hT1 hB1;have hcv:=run_convert_int_string (P:=Tryz.prog) w4 21 30 .i32 (c.toNat:Int) rfl Tryz.underlying30;rw[hen]at hcv;have HH:=zC (And.intro hs (And.intro hn hL));have HT1:=zC hT1;have HX:=zC (And.intro hI1 (And.intro hB1 hmu));clear hI hT hB hI1 hT1 hB1 hmu hs hn hL hc hen h128;go_wp2_with (first|(at_mapUpdate;refine zAe (v:=.func (.func 57) #[.string s] #[]) rfl _ _ _ rfl Tryz.underlying45 Tryz.underlying30 rfl HT1.out rfl rfl HH.out.1 HH.out.2.1 ?_;intro w5 hT5 hg5)|fail)
    have hI5:=zBe HX.out.1 hg5 (Nat.ne_of_gt hlt);have hB5:=yO6 HX.out.2.1 hg5 (zR _) HX.out.2.1.size;rw[HH.out.2.2]at hT5;go_wp2_with fail;go_roundw
    case rel=>exact⟨_,_,_,_,_,_,_,_,_,⟨k+1,by omega,hI5,hT5,hB5⟩,rfl⟩
    case measure=>
     have hmu2:w5.iterPos w2.heap.size=k+1:=by simp[World.iterPos,hI5]
     rw[HX.out.2.2,hmu2];omega
  · obtain rfl:k=3:=by omega
    have hnext:∀ty,(Instr.next (.pointer (some ⟨w2.heap.size,0,none⟩)) true ty).run Tryz.prog wr=_:=fun ty=>Lib.run_next_end_at wr w2.heap.size ⟨#[45,126,42]⟩ 3 ty hI yCn;have HT5:=zC (And.intro hT hB);clear hT hB;go_wp2_with fail;go_ret;exact⟨_,rfl,HT5.out.1,HT5.out.2⟩
def zR7:List (ByteArray×Value):=[(⟨#[35]⟩,.func (.func 72) #[] #[]),(⟨#[94]⟩,.func (.func 73) #[] #[]),(⟨#[36]⟩,.func (.func 74) #[] #[]),(⟨#[44]⟩,.func (.func 75) #[] #[]),(⟨#[63]⟩,.func (.func 76) #[] #[]),(⟨#[64]⟩,.func (.func 77) #[] #[])]
def zS7 (s:ByteArray):List (ByteArray×Value):=[43,45,42,37,33,38,124,60,62,61,126].map fun c=>(⟨#[c]⟩,.func (.func 79) #[.string s] #[])
def zT7 (s:ByteArray):List (ByteArray×Value):=zR7++zS7 s
def zU7 (s:ByteArray) (W:World) (e:Ending) (W':World):Prop:=∃b,e=.returned (.map (some b))∧Mq W' b (sq (zT7 s))∧Below W.heap.size W W'
theorem zV7 (s:ByteArray) {k:Nat} (hk:k<11):∃c:UInt8,(⟨#[43,45,42,37,33,38,124,60,62,61,126]⟩:ByteArray)[k]'hk=c∧c.toNat<128∧Utf8.encode (c.toNat:Int)=⟨#[c]⟩∧shK (((⟨#[c]⟩:ByteArray),.bool true)::(zR7++(zS7 s).take k))=true∧xSd (zR7++(zS7 s).take k) ⟨#[c]⟩=[]∧
 (zR7++(zS7 s).take k)++[((⟨#[c]⟩:ByteArray),.func (.func 79) #[.string s] #[])]=zR7++(zS7 s).take (k+1):=by
 match k,hk with
 | 0,_=>exact⟨43,rfl,by decide,by kernel_rfl,rfl,rfl,rfl⟩
 | 1,_=>exact⟨45,rfl,by decide,by kernel_rfl,rfl,rfl,rfl⟩
 | 2,_=>exact⟨42,rfl,by decide,by kernel_rfl,rfl,rfl,rfl⟩
 | 3,_=>exact⟨37,rfl,by decide,by kernel_rfl,rfl,rfl,rfl⟩
 | 4,_=>exact⟨33,rfl,by decide,by kernel_rfl,rfl,rfl,rfl⟩
 | 5,_=>exact⟨38,rfl,by decide,by kernel_rfl,rfl,rfl,rfl⟩
 | 6,_=>exact⟨124,rfl,by decide,by kernel_rfl,rfl,rfl,rfl⟩
 | 7,_=>exact⟨60,rfl,by decide,by kernel_rfl,rfl,rfl,rfl⟩
 | 8,_=>exact⟨62,rfl,by decide,by kernel_rfl,rfl,rfl,rfl⟩
 | 9,_=>exact⟨61,rfl,by decide,by kernel_rfl,rfl,rfl,rfl⟩
 | 10,_=>exact⟨126,rfl,by decide,by kernel_rfl,rfl,rfl,rfl⟩
theorem zW7 (s:ByteArray) {W:World} (hW:SC W):Calls Tryz.prog 31 #[.string s] W (zU7 s W):=by
 have hmm:=@run_makeMap Tryz.prog;have hmf:∀(fn:Fn) (first cap:Array Value) (w:World),(Instr.makeFunc fn first cap).run Tryz.prog w=.ok (.func fn first cap) w:=fun _ _ _ _=>rfl;have hT:Mq (W.alloc (.map #[] 0)) W.heap.size (sq []):=Mq.made W;have hB:Below W.heap.size W (W.alloc (.map #[] 0)):=(zI _ _).alloc (zR _) _;have KM:=zC fun w (h:Below W.heap.size W w)=>zIl w (hW.below h);clear hW;go_in;go_wp2_with (first|(refine xZd rfl _ _ _ rfl Tryz.underlying49 Tryz.underlying30 rfl hT _ rfl rfl rfl rfl ?_;clear hT;intro w1 hT hg;replace hB:=yO6 hB hg (zR _) hB.size;clear hg)|fail)
 have HT:Hid (Mq w1 W.heap.size (sq zR7)):=zC hT;clear hT;refine(KM.out _ hB).mono ?_;rintro e w2 ⟨rfl,hq⟩;have hT2:=HT.out.below (hq.mono (zR _));have hB2:=hB.trans (hq.mono hB.size);have hlt:=hT2.lt;have hT3:Mq (w2.iter ⟨#[43,45,42,37,33,38,124,60,62,61,126]⟩ 0) W.heap.size (sq (zR7++(zS7 s).take 0)):=hT2.below ((zI _ _).alloc (zR _) _);have hB3:Below W.heap.size W (w2.iter ⟨#[43,45,42,37,33,38,124,60,62,61,126]⟩ 0):=hB2.alloc hB2.size _;have hI3:=World.iter_heap w2 ⟨#[43,45,42,37,33,38,124,60,62,61,126]⟩ 0;have H3:=zC (And.intro hT3 (And.intro hB3 hI3));clear hT2 hB2 hT3 hB3 hI3 hB hq HT KM;go_wp2_with fail;go_loopw [] (fun wr=>∃k:Nat,k≤11∧wr.heap[w2.heap.size]?=some (.stringIter ⟨#[43,45,42,37,33,38,124,60,62,61,126]⟩ k)∧Mq wr W.heap.size (sq (zR7++(zS7 s).take k))∧Below W.heap.size W wr) (fun wr=>11-wr.iterPos w2.heap.size)
 case atStart=>exact⟨0,xJ _,H3.out.2.2,H3.out.1,H3.out.2.1⟩
 case round=>
  obtain⟨k,hk,hI,hT,hB⟩:=hrel;by_cases hlt2:k<11
  · obtain⟨c,hc,h128,hen,hs,hn,hL⟩:=zV7 s hlt2
    have hnext:∀ty,(Instr.next (.pointer (some ⟨w2.heap.size,0,none⟩)) true ty).run Tryz.prog wr=_:=fun ty=>Lib.run_next_ascii_at wr w2.heap.size ⟨#[43,45,42,37,33,38,124,60,62,61,126]⟩ k ty hI hlt2 (by rw[hc];exact h128);rw[hc]at hnext;have hI1:=Lib.iterAt_heap wr w2.heap.size ⟨#[43,45,42,37,33,38,124,60,62,61,126]⟩ k (k+1) hI;have hT1:=hT.iterAt (Nat.ne_of_lt hlt) ⟨#[43,45,42,37,33,38,124,60,62,61,126]⟩ (k+1);have hB1:=Lib.below_iterAt hB (xT hlt) ⟨#[43,45,42,37,33,38,124,60,62,61,126]⟩ (k+1);have hmu:wr.iterPos w2.heap.size=k:=by simp[World.iterPos,hI]
    generalize wr.iterAt w2.heap.size ⟨#[43,45,42,37,33,38,124,60,62,61,126]⟩ (k+1)=w4 at hnext hI1 hT1 hB1;have hcv:=run_convert_int_string (P:=Tryz.prog) w4 21 30 .i32 (c.toNat:Int) rfl Tryz.underlying30;rw[hen]at hcv;have HH:=zC (And.intro hs (And.intro hn hL));have HT1:=zC hT1;have HX:=zC (And.intro hI1 (And.intro hB1 hmu));clear hI hT hB hI1 hT1 hB1 hmu hs hn hL hc hen h128;go_wp2_with (first|(at_mapUpdate;refine zAe (v:=.func (.func 79) #[.string s] #[]) rfl _ _ _ rfl Tryz.underlying49 Tryz.underlying30 rfl HT1.out rfl rfl HH.out.1 HH.out.2.1 ?_;intro w5 hT5 hg5)|fail)
    have hI5:=zBe HX.out.1 hg5 (Nat.ne_of_gt hlt);have hB5:=yO6 HX.out.2.1 hg5 (zR _) HX.out.2.1.size;rw[HH.out.2.2]at hT5;go_wp2_with fail;go_roundw
    case rel=>exact⟨_,_,_,_,_,_,_,_,_,⟨k+1,by omega,hI5,hT5,hB5⟩,rfl⟩
    case measure=>
     have hmu2:w5.iterPos w2.heap.size=k+1:=by simp[World.iterPos,hI5]
     rw[HX.out.2.2,hmu2];omega
  · obtain rfl:k=11:=by omega
    have hnext:∀ty,(Instr.next (.pointer (some ⟨w2.heap.size,0,none⟩)) true ty).run Tryz.prog wr=_:=fun ty=>Lib.run_next_end_at wr w2.heap.size ⟨#[43,45,42,37,33,38,124,60,62,61,126]⟩ 11 ty hI yCn;have HT5:=zC (And.intro hT hB);clear hT hB;go_wp2_with fail;go_ret;exact⟨_,rfl,HT5.out.1,HT5.out.2⟩
end
section
open Go.RowKit
theorem zX7 (o p:Option Int):dyO 0 o p=(op (fun x y=>x+y) o p,opE (fun x y=>x+y) o p):=by
 cases o<;>cases p<;>simp only[dyO,dyI,tlI,op,opE,zH6]<;>split<;>rfl
theorem zY7 (o p:Option Int):dyO 1 o p=(op (fun x y=>x-y) o p,opE (fun x y=>x-y) o p):=by
 cases o<;>cases p<;>simp only[dyO,dyI,tlI,op,opE,zH6]<;>split<;>rfl
theorem zZ7 (o p:Option Int):dyO 2 o p=(op (fun x y=>x*y) o p,opE (fun x y=>x*y) o p):=by
 cases o<;>cases p<;>simp only[dyO,dyI,tlI,op,opE,zH6]<;>split<;>rfl
theorem yA7 {k:Nat} {o p:Option Int} (hn:(o.isSome&&p.isSome)=false):dyO k o p=(none,1):=by
 cases o<;>cases p<;>first|rfl|exact absurd hn yHn
theorem yB7 {k:Nat} (hk:k=3∨k=4) (x:Int):dyO k (some x) (some 0)=(none,5):=by
 rcases hk with h|h<;>subst h<;>rfl
theorem yC7 {x y:Int} (hy:y≠0):dyO 3 (some x) (some y)=(some (fq x y),0):=by
 simp only[dyO,dyI];rw[zY hy]
theorem yD7 {x y:Int} (hy:y≠0):dyO 4 (some x) (some y)=(some (fr x y),0):=by
 simp only[dyO,dyI];rw[zY hy]
theorem yE7 {s t:ByteArray} {o p:Option Int} (w:World) (hs:Is s o) (ht:Is t p) (htab:Tab w):Calls Tryz.prog 200 #[.string s,.string t] w (yB6 (dyO 0 o p).1 (dyO 0 o p).2 w):=by
 rw[zX7];exact yD6 w hs ht htab
theorem yF7 {s t:ByteArray} {o p:Option Int} (w:World) (hs:Is s o) (ht:Is t p) (htab:Tab w):Calls Tryz.prog 201 #[.string s,.string t] w (yB6 (dyO 1 o p).1 (dyO 1 o p).2 w):=by
 rw[zY7];exact yE6 w hs ht htab
theorem yG7 {s t:ByteArray} {o p:Option Int} (w:World) (hs:Is s o) (ht:Is t p) (htab:Tab w):Calls Tryz.prog 202 #[.string s,.string t] w (yB6 (dyO 2 o p).1 (dyO 2 o p).2 w):=by
 rw[zZ7];exact yF6 w hs ht htab
theorem yH7 {s t:ByteArray} {o p:Option Int} (w:World) (hs:Is s o) (ht:Is t p) (htab:Tab w):Calls Tryz.prog 203 #[.string s,.string t] w (yB6 (dyO 3 o p).1 (dyO 3 o p).2 w):=by
 cases hn:(o.isSome&&p.isSome)
 · rw[yA7 hn]
   exact yTk s t w hs.size ht.size (yC6 hs ht hn)
 · cases o<;>cases p<;>simp at hn
   rename_i x y;rw[hs.1,ht.1];by_cases hy:y=0
   · subst hy
     rw[yB7 (.inl rfl)];exact yUk x w hs.2 htab
   · rw[yC7 hy]
     have hq:(fq x y).natAbs<lim:=yT1 (yMk x y hy) hs.2;have h:=ySk x y w hs.2 ht.2 hy htab;unfold OpPost at h;rw[xCk hq,xDk hq]at h;exact h
theorem yI7 {s t:ByteArray} {o p:Option Int} (w:World) (hs:Is s o) (ht:Is t p) (htab:Tab w):Calls Tryz.prog 204 #[.string s,.string t] w (yB6 (dyO 4 o p).1 (dyO 4 o p).2 w):=by
 cases hn:(o.isSome&&p.isSome)
 · rw[yA7 hn]
   exact yWk s t w hs.size ht.size (yC6 hs ht hn)
 · cases o<;>cases p<;>simp at hn
   rename_i x y;rw[hs.1,ht.1];by_cases hy:y=0
   · subst hy
     rw[yB7 (.inr rfl)];exact yXk x w hs.2 htab
   · rw[yD7 hy]
     have hq:(fr x y).natAbs<lim:=yT1 (yNk x y hy) ht.2;have h:=yVk x y w hs.2 ht.2 hy htab;unfold OpPost at h;rw[xCk hq,xDk hq]at h;exact h
end
section
open Go.RowKit Go.Maps Go.MapKept Go.WideMaps
def RL:List (Value×Value):=[(.string ⟨#[43]⟩,.func (.func 200) #[] #[]),(.string ⟨#[45]⟩,.func (.func 201) #[] #[]),(.string ⟨#[42]⟩,.func (.func 202) #[] #[]),(.string ⟨#[37]⟩,.func (.func 203) #[] #[]),(.string ⟨#[33]⟩,.func (.func 204) #[] #[])]
def WL:List (Value×Value):=[(.string ⟨#[38]⟩,.func (.func 205) #[] #[]),(.string ⟨#[124]⟩,.func (.func 206) #[] #[]),(.string ⟨#[60]⟩,.func (.func 207) #[] #[]),(.string ⟨#[62]⟩,.func (.func 209) #[] #[]),(.string ⟨#[61]⟩,.func (.func 210) #[] #[]),(.string ⟨#[126]⟩,.func (.func 211) #[] #[])]
def ML:List (Value×Value):=[(.string ⟨#[45]⟩,.func (.func 195) #[] #[]),(.string ⟨#[126]⟩,.func (.func 196) #[] #[]),(.string ⟨#[42]⟩,.func (.func 199) #[] #[])]
theorem yJ7 (W:World):Calls Tryz.prog 181 #[] W fun e W'=>∃b,e=.returned (.map (some b))∧Mq W' b RL∧Below W.heap.size W W':=by
 have hmm:=@run_makeMap Tryz.prog;have hT:=Mq.made W;have hB:Below W.heap.size W (W.alloc (.map #[] 0)):=(zI _ _).alloc (zR _) _;go_in;go_wp2_with (first
  |(refine yN6 _ rfl _ _ _ 175 rfl 9 136 Tryz.underlying175 (yU1 Tryz.underlying9) W.heap.size [] rfl hT (.string ⟨#[43]⟩) (.func (.func 200) #[] #[]) rfl rfl _ (yV1 Tryz.underlying9 yCn) (fun _ h=>by cases h) yHn ?_;clear hT;intro w1 hT hg;replace hB:=yO6 hB hg (zR _) hB.size;clear hg)
  |(refine yN6 _ rfl _ _ _ 175 rfl 9 136 Tryz.underlying175 (yU1 Tryz.underlying9) W.heap.size [(.string ⟨#[43]⟩,.func (.func 200) #[] #[])] rfl hT (.string ⟨#[45]⟩) (.func (.func 201) #[] #[]) rfl rfl _ (yV1 Tryz.underlying9 yCn) xRl yHn ?_;clear hT;intro w1 hT hg;replace hB:=yO6 hB hg (zR _) hB.size;clear hg)
  |(refine yN6 _ rfl _ _ _ 175 rfl 9 136 Tryz.underlying175 (yU1 Tryz.underlying9) W.heap.size [(.string ⟨#[43]⟩,.func (.func 200) #[] #[]),(.string ⟨#[45]⟩,.func (.func 201) #[] #[])] rfl hT (.string ⟨#[42]⟩) (.func (.func 202) #[] #[]) rfl rfl _ (yV1 Tryz.underlying9 yCn) xNl yHn ?_;clear hT;intro w1 hT hg;replace hB:=yO6 hB hg (zR _) hB.size;clear hg)
  |(refine yN6 _ rfl _ _ _ 175 rfl 9 136 Tryz.underlying175 (yU1 Tryz.underlying9) W.heap.size [(.string ⟨#[43]⟩,.func (.func 200) #[] #[]),(.string ⟨#[45]⟩,.func (.func 201) #[] #[]),(.string ⟨#[42]⟩,.func (.func 202) #[] #[])] rfl hT (.string ⟨#[37]⟩) (.func (.func 203) #[] #[]) rfl rfl _ (yV1 Tryz.underlying9 yCn) xIl yHn ?_;clear hT;intro w1 hT hg;replace hB:=yO6 hB hg (zR _) hB.size;clear hg)
  |(refine yN6 _ rfl _ _ _ 175 rfl 9 136 Tryz.underlying175 (yU1 Tryz.underlying9) W.heap.size [(.string ⟨#[43]⟩,.func (.func 200) #[] #[]),(.string ⟨#[45]⟩,.func (.func 201) #[] #[]),(.string ⟨#[42]⟩,.func (.func 202) #[] #[]),(.string ⟨#[37]⟩,.func (.func 203) #[] #[])] rfl hT (.string ⟨#[33]⟩) (.func (.func 204) #[] #[]) rfl rfl _ (yV1 Tryz.underlying9 yCn) xFl yHn ?_;clear hT;intro w1 hT hg;replace hB:=yO6 hB hg (zR _) hB.size;clear hg)
  |fail)
 go_ret;exact⟨_,rfl,hT,hB⟩
theorem yK7:∀p∈RL,∃m,keyOf Tryz.prog 9 p.1=some m:=by
 unfold RL;simp only[yW1];exact⟨⟨_,yV1 Tryz.underlying9 yCn⟩,⟨_,yV1 Tryz.underlying9 yCn⟩,⟨_,yV1 Tryz.underlying9 yCn⟩,⟨_,yV1 Tryz.underlying9 yCn⟩,⟨_,yV1 Tryz.underlying9 yCn⟩,fun _ h=>by cases h⟩
theorem yL7 {w:World} {b:Nat} (h:Mq w b RL):(Instr.lookup 175 (.map (some b)) (.string ⟨#[43]⟩) true).run Tryz.prog w=.ok (.tuple #[.func (.func 200) #[] #[],.bool true]) w:=
 h.look Tryz.underlying175 (yU1 Tryz.underlying9) (yV1 Tryz.underlying9 yCn) (v:=.func (.func 200) #[] #[]) true yK7 ⟨.func (.func 200) #[] #[],by simp[RL]⟩ yAn
theorem yM7 {w:World} {b:Nat} (h:Mq w b RL):(Instr.lookup 175 (.map (some b)) (.string ⟨#[45]⟩) true).run Tryz.prog w=.ok (.tuple #[.func (.func 201) #[] #[],.bool true]) w:=
 h.look Tryz.underlying175 (yU1 Tryz.underlying9) (yV1 Tryz.underlying9 yCn) (v:=.func (.func 201) #[] #[]) true yK7 ⟨.func (.func 201) #[] #[],by simp[RL]⟩ yAn
theorem yN7 {w:World} {b:Nat} (h:Mq w b RL):(Instr.lookup 175 (.map (some b)) (.string ⟨#[42]⟩) true).run Tryz.prog w=.ok (.tuple #[.func (.func 202) #[] #[],.bool true]) w:=
 h.look Tryz.underlying175 (yU1 Tryz.underlying9) (yV1 Tryz.underlying9 yCn) (v:=.func (.func 202) #[] #[]) true yK7 ⟨.func (.func 202) #[] #[],by simp[RL]⟩ yAn
theorem yO7 {w:World} {b:Nat} (h:Mq w b RL):(Instr.lookup 175 (.map (some b)) (.string ⟨#[37]⟩) true).run Tryz.prog w=.ok (.tuple #[.func (.func 203) #[] #[],.bool true]) w:=
 h.look Tryz.underlying175 (yU1 Tryz.underlying9) (yV1 Tryz.underlying9 yCn) (v:=.func (.func 203) #[] #[]) true yK7 ⟨.func (.func 203) #[] #[],by simp[RL]⟩ yAn
theorem yP7 {w:World} {b:Nat} (h:Mq w b RL):(Instr.lookup 175 (.map (some b)) (.string ⟨#[33]⟩) true).run Tryz.prog w=.ok (.tuple #[.func (.func 204) #[] #[],.bool true]) w:=
 h.look Tryz.underlying175 (yU1 Tryz.underlying9) (yV1 Tryz.underlying9 yCn) (v:=.func (.func 204) #[] #[]) true yK7 ⟨.func (.func 204) #[] #[],by simp[RL]⟩ yAn
theorem yQ7 {w:World} {b:Nat} (h:Mq w b RL) {op:ByteArray} (ho:op.size≤maxLen) (h0:op≠⟨#[43]⟩) (h1:op≠⟨#[45]⟩) (h2:op≠⟨#[42]⟩) (h3:op≠⟨#[37]⟩) (h4:op≠⟨#[33]⟩):(Instr.lookup 175 (.map (some b)) (.string op) true).run Tryz.prog w=.ok (.tuple #[.nilFunc,.bool false]) w:=by
 refine h.miss Tryz.underlying175 (yU1 Tryz.underlying9) (yV1 Tryz.underlying9 ho) true zYn yK7 ?_;unfold RL;simp only[yW1];exact⟨fun e=>h0 xGm,fun e=>h1 xGm,fun e=>h2 xGm,fun e=>h3 xGm,fun e=>h4 xGm,fun _ h=>by cases h⟩
theorem yR7 (W:World):Calls Tryz.prog 182 #[] W fun e W'=>∃b,e=.returned (.map (some b))∧Mq W' b WL∧Below W.heap.size W W':=by
 have hmm:=@run_makeMap Tryz.prog;have hT:=Mq.made W;have hB:Below W.heap.size W (W.alloc (.map #[] 0)):=(zI _ _).alloc (zR _) _;go_in;go_wp2_with (first
  |(refine yN6 _ rfl _ _ _ 178 rfl 9 91 Tryz.underlying178 (yU1 Tryz.underlying9) W.heap.size [] rfl hT (.string ⟨#[38]⟩) (.func (.func 205) #[] #[]) rfl rfl _ (yV1 Tryz.underlying9 yCn) (fun _ h=>by cases h) yHn ?_;clear hT;intro w1 hT hg;replace hB:=yO6 hB hg (zR _) hB.size;clear hg)
  |(refine yN6 _ rfl _ _ _ 178 rfl 9 91 Tryz.underlying178 (yU1 Tryz.underlying9) W.heap.size [(.string ⟨#[38]⟩,.func (.func 205) #[] #[])] rfl hT (.string ⟨#[124]⟩) (.func (.func 206) #[] #[]) rfl rfl _ (yV1 Tryz.underlying9 yCn) xRl yHn ?_;clear hT;intro w1 hT hg;replace hB:=yO6 hB hg (zR _) hB.size;clear hg)
  |(refine yN6 _ rfl _ _ _ 178 rfl 9 91 Tryz.underlying178 (yU1 Tryz.underlying9) W.heap.size [(.string ⟨#[38]⟩,.func (.func 205) #[] #[]),(.string ⟨#[124]⟩,.func (.func 206) #[] #[])] rfl hT (.string ⟨#[60]⟩) (.func (.func 207) #[] #[]) rfl rfl _ (yV1 Tryz.underlying9 yCn) xNl yHn ?_;clear hT;intro w1 hT hg;replace hB:=yO6 hB hg (zR _) hB.size;clear hg)
  |(refine yN6 _ rfl _ _ _ 178 rfl 9 91 Tryz.underlying178 (yU1 Tryz.underlying9) W.heap.size [(.string ⟨#[38]⟩,.func (.func 205) #[] #[]),(.string ⟨#[124]⟩,.func (.func 206) #[] #[]),(.string ⟨#[60]⟩,.func (.func 207) #[] #[])] rfl hT (.string ⟨#[62]⟩) (.func (.func 209) #[] #[]) rfl rfl _ (yV1 Tryz.underlying9 yCn) xIl yHn ?_;clear hT;intro w1 hT hg;replace hB:=yO6 hB hg (zR _) hB.size;clear hg)
  |(refine yN6 _ rfl _ _ _ 178 rfl 9 91 Tryz.underlying178 (yU1 Tryz.underlying9) W.heap.size [(.string ⟨#[38]⟩,.func (.func 205) #[] #[]),(.string ⟨#[124]⟩,.func (.func 206) #[] #[]),(.string ⟨#[60]⟩,.func (.func 207) #[] #[]),(.string ⟨#[62]⟩,.func (.func 209) #[] #[])] rfl hT (.string ⟨#[61]⟩) (.func (.func 210) #[] #[]) rfl rfl _ (yV1 Tryz.underlying9 yCn) xFl yHn ?_;clear hT;intro w1 hT hg;replace hB:=yO6 hB hg (zR _) hB.size;clear hg)
  |(refine yN6 _ rfl _ _ _ 178 rfl 9 91 Tryz.underlying178 (yU1 Tryz.underlying9) W.heap.size [(.string ⟨#[38]⟩,.func (.func 205) #[] #[]),(.string ⟨#[124]⟩,.func (.func 206) #[] #[]),(.string ⟨#[60]⟩,.func (.func 207) #[] #[]),(.string ⟨#[62]⟩,.func (.func 209) #[] #[]),(.string ⟨#[61]⟩,.func (.func 210) #[] #[])] rfl hT (.string ⟨#[126]⟩) (.func (.func 211) #[] #[]) rfl rfl _ (yV1 Tryz.underlying9 yCn) (by simp only[yW1];exact⟨⟨_,yV1 Tryz.underlying9 yCn⟩,⟨_,yV1 Tryz.underlying9 yCn⟩,⟨_,yV1 Tryz.underlying9 yCn⟩,⟨_,yV1 Tryz.underlying9 yCn⟩,⟨_,yV1 Tryz.underlying9 yCn⟩,fun _ h=>by cases h⟩) yHn ?_;clear hT;intro w1 hT hg;replace hB:=yO6 hB hg (zR _) hB.size;clear hg)
  |fail)
 go_ret;exact⟨_,rfl,hT,hB⟩
theorem yS7:∀p∈WL,∃m,keyOf Tryz.prog 9 p.1=some m:=by
 unfold WL;simp only[yW1];exact⟨⟨_,yV1 Tryz.underlying9 yCn⟩,⟨_,yV1 Tryz.underlying9 yCn⟩,⟨_,yV1 Tryz.underlying9 yCn⟩,⟨_,yV1 Tryz.underlying9 yCn⟩,⟨_,yV1 Tryz.underlying9 yCn⟩,⟨_,yV1 Tryz.underlying9 yCn⟩,fun _ h=>by cases h⟩
theorem yT7 {w:World} {b:Nat} (h:Mq w b WL):(Instr.lookup 178 (.map (some b)) (.string ⟨#[38]⟩) true).run Tryz.prog w=.ok (.tuple #[.func (.func 205) #[] #[],.bool true]) w:=
 h.look Tryz.underlying178 (yU1 Tryz.underlying9) (yV1 Tryz.underlying9 yCn) (v:=.func (.func 205) #[] #[]) true yS7 ⟨.func (.func 205) #[] #[],by simp[WL]⟩ yBn
theorem yU7 {w:World} {b:Nat} (h:Mq w b WL):(Instr.lookup 178 (.map (some b)) (.string ⟨#[124]⟩) true).run Tryz.prog w=.ok (.tuple #[.func (.func 206) #[] #[],.bool true]) w:=
 h.look Tryz.underlying178 (yU1 Tryz.underlying9) (yV1 Tryz.underlying9 yCn) (v:=.func (.func 206) #[] #[]) true yS7 ⟨.func (.func 206) #[] #[],by simp[WL]⟩ yBn
theorem yV7 {w:World} {b:Nat} (h:Mq w b WL):(Instr.lookup 178 (.map (some b)) (.string ⟨#[60]⟩) true).run Tryz.prog w=.ok (.tuple #[.func (.func 207) #[] #[],.bool true]) w:=
 h.look Tryz.underlying178 (yU1 Tryz.underlying9) (yV1 Tryz.underlying9 yCn) (v:=.func (.func 207) #[] #[]) true yS7 ⟨.func (.func 207) #[] #[],by simp[WL]⟩ yBn
theorem yW7 {w:World} {b:Nat} (h:Mq w b WL):(Instr.lookup 178 (.map (some b)) (.string ⟨#[62]⟩) true).run Tryz.prog w=.ok (.tuple #[.func (.func 209) #[] #[],.bool true]) w:=
 h.look Tryz.underlying178 (yU1 Tryz.underlying9) (yV1 Tryz.underlying9 yCn) (v:=.func (.func 209) #[] #[]) true yS7 ⟨.func (.func 209) #[] #[],by simp[WL]⟩ yBn
theorem yX7 {w:World} {b:Nat} (h:Mq w b WL):(Instr.lookup 178 (.map (some b)) (.string ⟨#[61]⟩) true).run Tryz.prog w=.ok (.tuple #[.func (.func 210) #[] #[],.bool true]) w:=
 h.look Tryz.underlying178 (yU1 Tryz.underlying9) (yV1 Tryz.underlying9 yCn) (v:=.func (.func 210) #[] #[]) true yS7 ⟨.func (.func 210) #[] #[],by simp[WL]⟩ yBn
theorem yY7 {w:World} {b:Nat} (h:Mq w b WL):(Instr.lookup 178 (.map (some b)) (.string ⟨#[126]⟩) true).run Tryz.prog w=.ok (.tuple #[.func (.func 211) #[] #[],.bool true]) w:=
 h.look Tryz.underlying178 (yU1 Tryz.underlying9) (yV1 Tryz.underlying9 yCn) (v:=.func (.func 211) #[] #[]) true yS7 ⟨.func (.func 211) #[] #[],by simp[WL]⟩ yBn
theorem yZ7 {w:World} {b:Nat} (h:Mq w b WL) {op:ByteArray} (ho:op.size≤maxLen) (h0:op≠⟨#[38]⟩) (h1:op≠⟨#[124]⟩) (h2:op≠⟨#[60]⟩) (h3:op≠⟨#[62]⟩) (h4:op≠⟨#[61]⟩) (h5:op≠⟨#[126]⟩):(Instr.lookup 178 (.map (some b)) (.string op) true).run Tryz.prog w=.ok (.tuple #[.nilFunc,.bool false]) w:=by
 refine h.miss Tryz.underlying178 (yU1 Tryz.underlying9) (yV1 Tryz.underlying9 ho) true zYn yS7 ?_;unfold WL;simp only[yW1];exact⟨fun e=>h0 xGm,fun e=>h1 xGm,fun e=>h2 xGm,fun e=>h3 xGm,fun e=>h4 xGm,fun e=>h5 xGm,fun _ h=>by cases h⟩
theorem xA7 (W:World):Calls Tryz.prog 175 #[] W fun e W'=>∃b,e=.returned (.map (some b))∧Mq W' b ML∧Below W.heap.size W W':=by
 have hmm:=@run_makeMap Tryz.prog;have hT:=Mq.made W;have hB:Below W.heap.size W (W.alloc (.map #[] 0)):=(zI _ _).alloc (zR _) _;go_in;go_wp2_with (first
  |(refine yN6 _ rfl _ _ _ 171 rfl 9 106 Tryz.underlying171 (yU1 Tryz.underlying9) W.heap.size [] rfl hT (.string ⟨#[45]⟩) (.func (.func 195) #[] #[]) rfl rfl _ (yV1 Tryz.underlying9 yCn) (fun _ h=>by cases h) yHn ?_;clear hT;intro w1 hT hg;replace hB:=yO6 hB hg (zR _) hB.size;clear hg)
  |(refine yN6 _ rfl _ _ _ 171 rfl 9 106 Tryz.underlying171 (yU1 Tryz.underlying9) W.heap.size [(.string ⟨#[45]⟩,.func (.func 195) #[] #[])] rfl hT (.string ⟨#[126]⟩) (.func (.func 196) #[] #[]) rfl rfl _ (yV1 Tryz.underlying9 yCn) xRl yHn ?_;clear hT;intro w1 hT hg;replace hB:=yO6 hB hg (zR _) hB.size;clear hg)
  |(refine yN6 _ rfl _ _ _ 171 rfl 9 106 Tryz.underlying171 (yU1 Tryz.underlying9) W.heap.size [(.string ⟨#[45]⟩,.func (.func 195) #[] #[]),(.string ⟨#[126]⟩,.func (.func 196) #[] #[])] rfl hT (.string ⟨#[42]⟩) (.func (.func 199) #[] #[]) rfl rfl _ (yV1 Tryz.underlying9 yCn) xNl yHn ?_;clear hT;intro w1 hT hg;replace hB:=yO6 hB hg (zR _) hB.size;clear hg)
  |fail)
 go_ret;exact⟨_,rfl,hT,hB⟩
theorem xB7:∀p∈ML,∃m,keyOf Tryz.prog 9 p.1=some m:=by
 unfold ML;simp only[yW1];exact⟨⟨_,yV1 Tryz.underlying9 yCn⟩,⟨_,yV1 Tryz.underlying9 yCn⟩,⟨_,yV1 Tryz.underlying9 yCn⟩,fun _ h=>by cases h⟩
theorem xC7 {w:World} {b:Nat} (h:Mq w b ML):(Instr.lookup 171 (.map (some b)) (.string ⟨#[45]⟩) true).run Tryz.prog w=.ok (.tuple #[.func (.func 195) #[] #[],.bool true]) w:=
 h.look Tryz.underlying171 (yU1 Tryz.underlying9) (yV1 Tryz.underlying9 yCn) (v:=.func (.func 195) #[] #[]) true xB7 ⟨.func (.func 195) #[] #[],by simp[ML]⟩ (by simp[ML])
theorem xD7 {w:World} {b:Nat} (h:Mq w b ML):(Instr.lookup 171 (.map (some b)) (.string ⟨#[126]⟩) true).run Tryz.prog w=.ok (.tuple #[.func (.func 196) #[] #[],.bool true]) w:=
 h.look Tryz.underlying171 (yU1 Tryz.underlying9) (yV1 Tryz.underlying9 yCn) (v:=.func (.func 196) #[] #[]) true xB7 ⟨.func (.func 196) #[] #[],by simp[ML]⟩ (by simp[ML])
theorem xE7 {w:World} {b:Nat} (h:Mq w b ML):(Instr.lookup 171 (.map (some b)) (.string ⟨#[42]⟩) true).run Tryz.prog w=.ok (.tuple #[.func (.func 199) #[] #[],.bool true]) w:=
 h.look Tryz.underlying171 (yU1 Tryz.underlying9) (yV1 Tryz.underlying9 yCn) (v:=.func (.func 199) #[] #[]) true xB7 ⟨.func (.func 199) #[] #[],by simp[ML]⟩ (by simp[ML])
theorem xF7 {w:World} {b:Nat} (h:Mq w b ML) {op:ByteArray} (ho:op.size≤maxLen) (h0:op≠⟨#[45]⟩) (h1:op≠⟨#[126]⟩) (h2:op≠⟨#[42]⟩):(Instr.lookup 171 (.map (some b)) (.string op) true).run Tryz.prog w=.ok (.tuple #[.nilFunc,.bool false]) w:=by
 refine h.miss Tryz.underlying171 (yU1 Tryz.underlying9) (yV1 Tryz.underlying9 ho) true zYn xB7 ?_;unfold ML;simp only[yW1];exact⟨fun e=>h0 xGm,fun e=>h1 xGm,fun e=>h2 xGm,fun _ h=>by cases h⟩
end
end Go.Proofs.YtcfbjdplhgdpfaaGreatDoor

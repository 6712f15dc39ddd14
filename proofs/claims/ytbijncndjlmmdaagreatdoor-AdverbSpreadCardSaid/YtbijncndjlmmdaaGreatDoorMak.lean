import Derived.Test.YtbijncndjlmmdaaGreatDoorMai
import Derived.Test.YtbijncndjlmmdaaGreatDoorMaj
set_option maxHeartbeats 3200000
set_option maxRecDepth 100000
namespace Go.Proofs.YtbijncndjlmmdaaGreatDoor
set_option linter.unusedVariables false
set_option linter.unusedSimpArgs false
open Go.RowKit Go.Maps Go.MapKept Go.WideMaps
def LOne:List (ByteArray×Value):=[(⟨#[33]⟩,.func (.func 109) #[] #[]),(⟨#[35]⟩,.func (.func 110) #[] #[]),(⟨#[61]⟩,.func (.func 111) #[] #[]),(⟨#[44]⟩,.func (.func 112) #[] #[]),(⟨#[124]⟩,.func (.func 113) #[] #[]),(⟨#[43]⟩,.func (.func 114) #[] #[]),(⟨#[60]⟩,.func (.func 115) #[] #[]),(⟨#[62]⟩,.func (.func 116) #[] #[]),(⟨#[38]⟩,.func (.func 117) #[] #[]),(⟨#[63]⟩,.func (.func 118) #[] #[])]
def GOne (s:ByteArray):List (ByteArray×Value):=[45,126,42].map fun c=>(⟨#[c]⟩,.func (.func 120) #[.string s] #[])
def MOne (s:ByteArray):List (ByteArray×Value):=LOne++GOne s
def MnOne (s:ByteArray) (W:World) (e:Ending) (W':World):Prop:=∃b,e=.returned (.map (some b))∧Mq W' b (sq (MOne s))∧Below W.heap.size W W'
theorem stepOne (s:ByteArray) {k:Nat} (hk:k<3):∃c:UInt8,(⟨#[45,126,42]⟩:ByteArray)[k]'hk=c∧c.toNat<128∧Utf8.encode (c.toNat:Int)=⟨#[c]⟩∧shK (((⟨#[c]⟩:ByteArray),.bool true)::(LOne++(GOne s).take k))=true∧finK (LOne++(GOne s).take k) ⟨#[c]⟩=[]∧
 (LOne++(GOne s).take k)++[((⟨#[c]⟩:ByteArray),.func (.func 120) #[.string s] #[])]=LOne++(GOne s).take (k+1):=by
 match k,hk with
 | 0,_=>exact⟨45,rfl,by decide,by kernel_rfl,rfl,rfl,rfl⟩
 | 1,_=>exact⟨126,rfl,by decide,by kernel_rfl,rfl,rfl,rfl⟩
 | 2,_=>exact⟨42,rfl,by decide,by kernel_rfl,rfl,rfl,rfl⟩
theorem ofOne_is (s:ByteArray) {W:World} (hW:SM W):Calls Tryz.prog 62 #[.string s] W (MnOne s W):=by
 have hmm:=@run_makeMap Tryz.prog
 have hmf:∀(fn:Fn) (first cap:Array Value) (w:World),(Instr.makeFunc fn first cap).run Tryz.prog w=.ok (.func fn first cap) w:=fun _ _ _ _=>rfl
 have hT:Mq (W.alloc (.map #[] 0)) W.heap.size (sq []):=Mq.made W
 have hB:Below W.heap.size W (W.alloc (.map #[] 0)):=(Below.refl _ _).alloc (Nat.le_refl _) _
 have KM:=Lib.hid fun w (h:Below W.heap.size W w)=>ms_ok w (hW.below h)
 clear hW
 go_enter Tryz.func62,Tryz.ntmps62
 go_wp2_with (first|(refine wpList_sput rfl _ _ _ rfl Tryz.underlying81 Tryz.underlying31 rfl hT _ rfl rfl rfl rfl ?_;clear hT;intro w1 hT hg;replace hB:=mgrown hB hg (Nat.le_refl _) hB.size;clear hg)|fail)
 have HT:Hid (Mq w1 W.heap.size (sq LOne)):=Lib.hid hT
 clear hT
 refine(KM.out _ hB).mono ?_
 rintro e w2 ⟨rfl,hq⟩
 have hT2:=HT.out.below (hq.mono (Nat.le_refl _))
 have hB2:=hB.trans (hq.mono hB.size)
 have hlt:=hT2.lt
 have hT3:Mq (w2.iter ⟨#[45,126,42]⟩ 0) W.heap.size (sq (LOne++(GOne s).take 0)):=hT2.below ((Below.refl _ _).alloc (Nat.le_refl _) _)
 have hB3:Below W.heap.size W (w2.iter ⟨#[45,126,42]⟩ 0):=hB2.alloc hB2.size _
 have hI3:=World.iter_heap w2 ⟨#[45,126,42]⟩ 0
 have H3:=Lib.hid (And.intro hT3 (And.intro hB3 hI3))
 clear hT2 hB2 hT3 hB3 hI3 hB hq HT KM
 go_wp2_with fail
 go_loopw [] (fun wr=>∃k:Nat,k≤3∧wr.heap[w2.heap.size]?=some (.stringIter ⟨#[45,126,42]⟩ k)∧Mq wr W.heap.size (sq (LOne++(GOne s).take k))∧Below W.heap.size W wr) (fun wr=>3-wr.iterPos w2.heap.size)
 case atStart=>exact⟨0,Nat.zero_le _,H3.out.2.2,H3.out.1,H3.out.2.1⟩
 case round=>
  obtain⟨k,hk,hI,hT,hB⟩:=hrel
  by_cases hlt2:k<3
  · obtain⟨c,hc,h128,hen,hs,hn,hL⟩:=stepOne s hlt2
    have hnext:∀ty,(Instr.next (.pointer (some ⟨w2.heap.size,0,none⟩)) true ty).run Tryz.prog wr=_:=fun ty=>Lib.run_next_ascii_at wr w2.heap.size ⟨#[45,126,42]⟩ k ty hI hlt2 (by rw[hc];exact h128)
    rw[hc]at hnext
    have hI1:=Lib.iterAt_heap wr w2.heap.size ⟨#[45,126,42]⟩ k (k+1) hI
    have hT1:=hT.iterAt (Nat.ne_of_lt hlt) ⟨#[45,126,42]⟩ (k+1)
    have hB1:=Lib.below_iterAt hB (Nat.le_of_lt hlt) ⟨#[45,126,42]⟩ (k+1)
    have hmu:wr.iterPos w2.heap.size=k:=by simp[World.iterPos,hI]
    generalize wr.iterAt w2.heap.size ⟨#[45,126,42]⟩ (k+1)=w4 at hnext hI1 hT1 hB1
    have hcv:=run_convert_int_string (P:=Tryz.prog) w4 21 31 .i32 (c.toNat:Int) rfl Tryz.underlying31
    rw[hen]at hcv
    have HH:=Lib.hid (And.intro hs (And.intro hn hL))
    have HT1:=Lib.hid hT1
    have HX:=Lib.hid (And.intro hI1 (And.intro hB1 hmu))
    clear hI hT hB hI1 hT1 hB1 hmu hs hn hL hc hen h128
    go_wp2_with (first|(at_mapUpdate;refine wpList_supd (v:=.func (.func 120) #[.string s] #[]) rfl _ _ _ rfl Tryz.underlying81 Tryz.underlying31 rfl HT1.out rfl rfl HH.out.1 HH.out.2.1 ?_;intro w5 hT5 hg5)|fail)
    have hI5:=iter_grown HX.out.1 hg5 (Nat.ne_of_gt hlt)
    have hB5:=mgrown HX.out.2.1 hg5 (Nat.le_refl _) HX.out.2.1.size
    rw[HH.out.2.2]at hT5
    go_wp2_with fail
    go_roundw
    case rel=>exact⟨_,_,_,_,_,_,_,_,_,⟨k+1,by omega,hI5,hT5,hB5⟩,rfl⟩
    case measure=>
     have hmu2:w5.iterPos w2.heap.size=k+1:=by simp[World.iterPos,hI5]
     rw[HX.out.2.2,hmu2]
     omega
  · obtain rfl:k=3:=by omega
    have hnext:∀ty,(Instr.next (.pointer (some ⟨w2.heap.size,0,none⟩)) true ty).run Tryz.prog wr=_:=fun ty=>Lib.run_next_end_at wr w2.heap.size ⟨#[45,126,42]⟩ 3 ty hI (by decide)
    have HT5:=Lib.hid (And.intro hT hB)
    clear hT hB
    go_wp2_with fail
    go_ret
    exact⟨_,rfl,HT5.out.1,HT5.out.2⟩
def LTwo:List (ByteArray×Value):=[(⟨#[35]⟩,.func (.func 101) #[] #[]),(⟨#[94]⟩,.func (.func 102) #[] #[]),(⟨#[36]⟩,.func (.func 103) #[] #[]),(⟨#[44]⟩,.func (.func 104) #[] #[]),(⟨#[63]⟩,.func (.func 105) #[] #[]),(⟨#[64]⟩,.func (.func 106) #[] #[])]
def GTwo (s:ByteArray):List (ByteArray×Value):=[43,45,42,37,33,38,124,60,62,61,126].map fun c=>(⟨#[c]⟩,.func (.func 108) #[.string s] #[])
def MTwo (s:ByteArray):List (ByteArray×Value):=LTwo++GTwo s
def MnTwo (s:ByteArray) (W:World) (e:Ending) (W':World):Prop:=∃b,e=.returned (.map (some b))∧Mq W' b (sq (MTwo s))∧Below W.heap.size W W'
theorem stepTwo (s:ByteArray) {k:Nat} (hk:k<11):∃c:UInt8,(⟨#[43,45,42,37,33,38,124,60,62,61,126]⟩:ByteArray)[k]'hk=c∧c.toNat<128∧Utf8.encode (c.toNat:Int)=⟨#[c]⟩∧shK (((⟨#[c]⟩:ByteArray),.bool true)::(LTwo++(GTwo s).take k))=true∧finK (LTwo++(GTwo s).take k) ⟨#[c]⟩=[]∧
 (LTwo++(GTwo s).take k)++[((⟨#[c]⟩:ByteArray),.func (.func 108) #[.string s] #[])]=LTwo++(GTwo s).take (k+1):=by
 match k,hk with
 | 0,_=>exact⟨43,rfl,by decide,by kernel_rfl,rfl,rfl,rfl⟩
 | 1,_=>exact⟨45,rfl,by decide,by kernel_rfl,rfl,rfl,rfl⟩
 | 2,_=>exact⟨42,rfl,by decide,by kernel_rfl,rfl,rfl,rfl⟩
 | 3,_=>exact⟨37,rfl,by decide,by kernel_rfl,rfl,rfl,rfl⟩
 | 4,_=>exact⟨33,rfl,by decide,by kernel_rfl,rfl,rfl,rfl⟩
 | 5,_=>exact⟨38,rfl,by decide,by kernel_rfl,rfl,rfl,rfl⟩
 | 6,_=>exact⟨124,rfl,by decide,by kernel_rfl,rfl,rfl,rfl⟩
 | 7,_=>exact⟨60,rfl,by decide,by kernel_rfl,rfl,rfl,rfl⟩
 | 8,_=>exact⟨62,rfl,by decide,by kernel_rfl,rfl,rfl,rfl⟩
 | 9,_=>exact⟨61,rfl,by decide,by kernel_rfl,rfl,rfl,rfl⟩
 | 10,_=>exact⟨126,rfl,by decide,by kernel_rfl,rfl,rfl,rfl⟩
theorem ofTwo_is (s:ByteArray) {W:World} (hW:SC W):Calls Tryz.prog 61 #[.string s] W (MnTwo s W):=by
 have hmm:=@run_makeMap Tryz.prog
 have hmf:∀(fn:Fn) (first cap:Array Value) (w:World),(Instr.makeFunc fn first cap).run Tryz.prog w=.ok (.func fn first cap) w:=fun _ _ _ _=>rfl
 have hT:Mq (W.alloc (.map #[] 0)) W.heap.size (sq []):=Mq.made W
 have hB:Below W.heap.size W (W.alloc (.map #[] 0)):=(Below.refl _ _).alloc (Nat.le_refl _) _
 have KM:=Lib.hid fun w (h:Below W.heap.size W w)=>ds_ok w (hW.below h)
 clear hW
 go_enter Tryz.func61,Tryz.ntmps61
 go_wp2_with (first|(refine wpList_sput rfl _ _ _ rfl Tryz.underlying78 Tryz.underlying31 rfl hT _ rfl rfl rfl rfl ?_;clear hT;intro w1 hT hg;replace hB:=mgrown hB hg (Nat.le_refl _) hB.size;clear hg)|fail)
 have HT:Hid (Mq w1 W.heap.size (sq LTwo)):=Lib.hid hT
 clear hT
 refine(KM.out _ hB).mono ?_
 rintro e w2 ⟨rfl,hq⟩
 have hT2:=HT.out.below (hq.mono (Nat.le_refl _))
 have hB2:=hB.trans (hq.mono hB.size)
 have hlt:=hT2.lt
 have hT3:Mq (w2.iter ⟨#[43,45,42,37,33,38,124,60,62,61,126]⟩ 0) W.heap.size (sq (LTwo++(GTwo s).take 0)):=hT2.below ((Below.refl _ _).alloc (Nat.le_refl _) _)
 have hB3:Below W.heap.size W (w2.iter ⟨#[43,45,42,37,33,38,124,60,62,61,126]⟩ 0):=hB2.alloc hB2.size _
 have hI3:=World.iter_heap w2 ⟨#[43,45,42,37,33,38,124,60,62,61,126]⟩ 0
 have H3:=Lib.hid (And.intro hT3 (And.intro hB3 hI3))
 clear hT2 hB2 hT3 hB3 hI3 hB hq HT KM
 go_wp2_with fail
 go_loopw [] (fun wr=>∃k:Nat,k≤11∧wr.heap[w2.heap.size]?=some (.stringIter ⟨#[43,45,42,37,33,38,124,60,62,61,126]⟩ k)∧Mq wr W.heap.size (sq (LTwo++(GTwo s).take k))∧Below W.heap.size W wr) (fun wr=>11-wr.iterPos w2.heap.size)
 case atStart=>exact⟨0,Nat.zero_le _,H3.out.2.2,H3.out.1,H3.out.2.1⟩
 case round=>
  obtain⟨k,hk,hI,hT,hB⟩:=hrel
  by_cases hlt2:k<11
  · obtain⟨c,hc,h128,hen,hs,hn,hL⟩:=stepTwo s hlt2
    have hnext:∀ty,(Instr.next (.pointer (some ⟨w2.heap.size,0,none⟩)) true ty).run Tryz.prog wr=_:=fun ty=>Lib.run_next_ascii_at wr w2.heap.size ⟨#[43,45,42,37,33,38,124,60,62,61,126]⟩ k ty hI hlt2 (by rw[hc];exact h128)
    rw[hc]at hnext
    have hI1:=Lib.iterAt_heap wr w2.heap.size ⟨#[43,45,42,37,33,38,124,60,62,61,126]⟩ k (k+1) hI
    have hT1:=hT.iterAt (Nat.ne_of_lt hlt) ⟨#[43,45,42,37,33,38,124,60,62,61,126]⟩ (k+1)
    have hB1:=Lib.below_iterAt hB (Nat.le_of_lt hlt) ⟨#[43,45,42,37,33,38,124,60,62,61,126]⟩ (k+1)
    have hmu:wr.iterPos w2.heap.size=k:=by simp[World.iterPos,hI]
    generalize wr.iterAt w2.heap.size ⟨#[43,45,42,37,33,38,124,60,62,61,126]⟩ (k+1)=w4 at hnext hI1 hT1 hB1
    have hcv:=run_convert_int_string (P:=Tryz.prog) w4 21 31 .i32 (c.toNat:Int) rfl Tryz.underlying31
    rw[hen]at hcv
    have HH:=Lib.hid (And.intro hs (And.intro hn hL))
    have HT1:=Lib.hid hT1
    have HX:=Lib.hid (And.intro hI1 (And.intro hB1 hmu))
    clear hI hT hB hI1 hT1 hB1 hmu hs hn hL hc hen h128
    go_wp2_with (first|(at_mapUpdate;refine wpList_supd (v:=.func (.func 108) #[.string s] #[]) rfl _ _ _ rfl Tryz.underlying78 Tryz.underlying31 rfl HT1.out rfl rfl HH.out.1 HH.out.2.1 ?_;intro w5 hT5 hg5)|fail)
    have hI5:=iter_grown HX.out.1 hg5 (Nat.ne_of_gt hlt)
    have hB5:=mgrown HX.out.2.1 hg5 (Nat.le_refl _) HX.out.2.1.size
    rw[HH.out.2.2]at hT5
    go_wp2_with fail
    go_roundw
    case rel=>exact⟨_,_,_,_,_,_,_,_,_,⟨k+1,by omega,hI5,hT5,hB5⟩,rfl⟩
    case measure=>
     have hmu2:w5.iterPos w2.heap.size=k+1:=by simp[World.iterPos,hI5]
     rw[HX.out.2.2,hmu2]
     omega
  · obtain rfl:k=11:=by omega
    have hnext:∀ty,(Instr.next (.pointer (some ⟨w2.heap.size,0,none⟩)) true ty).run Tryz.prog wr=_:=fun ty=>Lib.run_next_end_at wr w2.heap.size ⟨#[43,45,42,37,33,38,124,60,62,61,126]⟩ 11 ty hI (by decide)
    have HT5:=Lib.hid (And.intro hT hB)
    clear hT hB
    go_wp2_with fail
    go_ret
    exact⟨_,rfl,HT5.out.1,HT5.out.2⟩
end Go.Proofs.YtbijncndjlmmdaaGreatDoor
namespace Go.Proofs.YtbijncndjlmmdaaGreatDoor
set_option linter.unusedVariables false
set_option linter.unusedSimpArgs false
open Go.RowKit
theorem dyO_0 (o p:Option Int):dyO 0 o p=(op (fun x y=>x+y) o p,opE (fun x y=>x+y) o p):=by
 cases o<;>cases p<;>simp only[dyO,dyI,tlI,op,opE,toldE]<;>split<;>rfl
theorem dyO_1 (o p:Option Int):dyO 1 o p=(op (fun x y=>x-y) o p,opE (fun x y=>x-y) o p):=by
 cases o<;>cases p<;>simp only[dyO,dyI,tlI,op,opE,toldE]<;>split<;>rfl
theorem dyO_2 (o p:Option Int):dyO 2 o p=(op (fun x y=>x*y) o p,opE (fun x y=>x*y) o p):=by
 cases o<;>cases p<;>simp only[dyO,dyI,tlI,op,opE,toldE]<;>split<;>rfl
theorem dyO_arg {k:Nat} {o p:Option Int} (hn:(o.isSome&&p.isSome)=false):dyO k o p=(none,1):=by
 cases o<;>cases p<;>first|rfl|exact absurd hn (by simp)
theorem dyO_by0 {k:Nat} (hk:k=3∨k=4) (x:Int):dyO k (some x) (some 0)=(none,5):=by
 rcases hk with h|h<;>subst h<;>rfl
theorem dyO_3 {x y:Int} (hy:y≠0):dyO 3 (some x) (some y)=(some (fq x y),0):=by
 simp only[dyO,dyI];rw[if_neg hy]
theorem dyO_4 {x y:Int} (hy:y≠0):dyO 4 (some x) (some y)=(some (fr x y),0):=by
 simp only[dyO,dyI];rw[if_neg hy]
theorem Add_dy {s t:ByteArray} {o p:Option Int} (w:World) (hs:Is s o) (ht:Is t p) (htab:Tab w):Calls Tryz.prog 236 #[.string s,.string t] w (OptPost (dyO 0 o p).1 (dyO 0 o p).2 w):=by
 rw[dyO_0];exact Add_opt w hs ht htab
theorem Sub_dy {s t:ByteArray} {o p:Option Int} (w:World) (hs:Is s o) (ht:Is t p) (htab:Tab w):Calls Tryz.prog 237 #[.string s,.string t] w (OptPost (dyO 1 o p).1 (dyO 1 o p).2 w):=by
 rw[dyO_1];exact Sub_opt w hs ht htab
theorem Mul_dy {s t:ByteArray} {o p:Option Int} (w:World) (hs:Is s o) (ht:Is t p) (htab:Tab w):Calls Tryz.prog 238 #[.string s,.string t] w (OptPost (dyO 2 o p).1 (dyO 2 o p).2 w):=by
 rw[dyO_2];exact Mul_opt w hs ht htab
theorem Div_dy {s t:ByteArray} {o p:Option Int} (w:World) (hs:Is s o) (ht:Is t p) (htab:Tab w):Calls Tryz.prog 239 #[.string s,.string t] w (OptPost (dyO 3 o p).1 (dyO 3 o p).2 w):=by
 cases hn:(o.isSome&&p.isSome)
 · rw[dyO_arg hn]
   exact Div_no s t w hs.size ht.size (two_no hs ht hn)
 · cases o<;>cases p<;>simp at hn
   rename_i x y
   rw[hs.1,ht.1]
   by_cases hy:y=0
   · subst hy
     rw[dyO_by0 (.inl rfl)]
     exact Div_zero x w hs.2 htab
   · rw[dyO_3 hy]
     have hq:(fq x y).natAbs<lim:=Nat.lt_of_le_of_lt (fq_abs x y hy) hs.2
     have h:=Div_yes x y w hs.2 ht.2 hy htab
     unfold OpPost at h
     rw[toldR_yes hq,toldE_yes hq]at h
     exact h
theorem Mod_dy {s t:ByteArray} {o p:Option Int} (w:World) (hs:Is s o) (ht:Is t p) (htab:Tab w):Calls Tryz.prog 240 #[.string s,.string t] w (OptPost (dyO 4 o p).1 (dyO 4 o p).2 w):=by
 cases hn:(o.isSome&&p.isSome)
 · rw[dyO_arg hn]
   exact Mod_no s t w hs.size ht.size (two_no hs ht hn)
 · cases o<;>cases p<;>simp at hn
   rename_i x y
   rw[hs.1,ht.1]
   by_cases hy:y=0
   · subst hy
     rw[dyO_by0 (.inr rfl)]
     exact Mod_zero x w hs.2 htab
   · rw[dyO_4 hy]
     have hq:(fr x y).natAbs<lim:=Nat.lt_of_le_of_lt (fr_abs x y hy) ht.2
     have h:=Mod_yes x y w hs.2 ht.2 hy htab
     unfold OpPost at h
     rw[toldR_yes hq,toldE_yes hq]at h
     exact h
end Go.Proofs.YtbijncndjlmmdaaGreatDoor
namespace Go.Proofs.YtbijncndjlmmdaaGreatDoor
set_option linter.unusedVariables false
set_option linter.unusedSimpArgs false
open Go.RowKit Go.Maps Go.MapKept Go.WideMaps
def RL:List (Value×Value):=[(.string ⟨#[43]⟩,.func (.func 236) #[] #[]),(.string ⟨#[45]⟩,.func (.func 237) #[] #[]),(.string ⟨#[42]⟩,.func (.func 238) #[] #[]),(.string ⟨#[37]⟩,.func (.func 239) #[] #[]),(.string ⟨#[33]⟩,.func (.func 240) #[] #[])]
def WL:List (Value×Value):=[(.string ⟨#[38]⟩,.func (.func 241) #[] #[]),(.string ⟨#[124]⟩,.func (.func 242) #[] #[]),(.string ⟨#[60]⟩,.func (.func 243) #[] #[]),(.string ⟨#[62]⟩,.func (.func 246) #[] #[]),(.string ⟨#[61]⟩,.func (.func 247) #[] #[]),(.string ⟨#[126]⟩,.func (.func 248) #[] #[])]
def ML:List (Value×Value):=[(.string ⟨#[45]⟩,.func (.func 250) #[] #[]),(.string ⟨#[126]⟩,.func (.func 251) #[] #[]),(.string ⟨#[42]⟩,.func (.func 253) #[] #[])]
theorem reckoning_is (W:World):Calls Tryz.prog 215 #[] W fun e W'=>∃b,e=.returned (.map (some b))∧Mq W' b RL∧Below W.heap.size W W':=by
 have hmm:=@run_makeMap Tryz.prog
 have hT:=Mq.made W
 have hB:Below W.heap.size W (W.alloc (.map #[] 0)):=(Below.refl _ _).alloc (Nat.le_refl _) _
 go_enter Tryz.func215,Tryz.ntmps215
 go_wp2_with (first
  |(refine wpList_mput _ rfl _ _ _ 183 rfl 9 170 Tryz.underlying183 (string_keyed Tryz.underlying9) W.heap.size [] rfl hT (.string ⟨#[43]⟩) (.func (.func 236) #[] #[]) rfl rfl _ (keyOf_string_mk Tryz.underlying9 (by decide)) (fun _ h=>by cases h) (by simp) ?_;clear hT;intro w1 hT hg;replace hB:=mgrown hB hg (Nat.le_refl _) hB.size;clear hg)
  |(refine wpList_mput _ rfl _ _ _ 183 rfl 9 170 Tryz.underlying183 (string_keyed Tryz.underlying9) W.heap.size [(.string ⟨#[43]⟩,.func (.func 236) #[] #[])] rfl hT (.string ⟨#[45]⟩) (.func (.func 237) #[] #[]) rfl rfl _ (keyOf_string_mk Tryz.underlying9 (by decide)) (by simp only[List.forall_mem_cons];exact⟨⟨_,keyOf_string_mk Tryz.underlying9 (by decide)⟩,fun _ h=>by cases h⟩) (by simp) ?_;clear hT;intro w1 hT hg;replace hB:=mgrown hB hg (Nat.le_refl _) hB.size;clear hg)
  |(refine wpList_mput _ rfl _ _ _ 183 rfl 9 170 Tryz.underlying183 (string_keyed Tryz.underlying9) W.heap.size [(.string ⟨#[43]⟩,.func (.func 236) #[] #[]),(.string ⟨#[45]⟩,.func (.func 237) #[] #[])] rfl hT (.string ⟨#[42]⟩) (.func (.func 238) #[] #[]) rfl rfl _ (keyOf_string_mk Tryz.underlying9 (by decide)) (by simp only[List.forall_mem_cons];exact⟨⟨_,keyOf_string_mk Tryz.underlying9 (by decide)⟩,⟨_,keyOf_string_mk Tryz.underlying9 (by decide)⟩,fun _ h=>by cases h⟩) (by simp) ?_;clear hT;intro w1 hT hg;replace hB:=mgrown hB hg (Nat.le_refl _) hB.size;clear hg)
  |(refine wpList_mput _ rfl _ _ _ 183 rfl 9 170 Tryz.underlying183 (string_keyed Tryz.underlying9) W.heap.size [(.string ⟨#[43]⟩,.func (.func 236) #[] #[]),(.string ⟨#[45]⟩,.func (.func 237) #[] #[]),(.string ⟨#[42]⟩,.func (.func 238) #[] #[])] rfl hT (.string ⟨#[37]⟩) (.func (.func 239) #[] #[]) rfl rfl _ (keyOf_string_mk Tryz.underlying9 (by decide)) (by simp only[List.forall_mem_cons];exact⟨⟨_,keyOf_string_mk Tryz.underlying9 (by decide)⟩,⟨_,keyOf_string_mk Tryz.underlying9 (by decide)⟩,⟨_,keyOf_string_mk Tryz.underlying9 (by decide)⟩,fun _ h=>by cases h⟩) (by simp) ?_;clear hT;intro w1 hT hg;replace hB:=mgrown hB hg (Nat.le_refl _) hB.size;clear hg)
  |(refine wpList_mput _ rfl _ _ _ 183 rfl 9 170 Tryz.underlying183 (string_keyed Tryz.underlying9) W.heap.size [(.string ⟨#[43]⟩,.func (.func 236) #[] #[]),(.string ⟨#[45]⟩,.func (.func 237) #[] #[]),(.string ⟨#[42]⟩,.func (.func 238) #[] #[]),(.string ⟨#[37]⟩,.func (.func 239) #[] #[])] rfl hT (.string ⟨#[33]⟩) (.func (.func 240) #[] #[]) rfl rfl _ (keyOf_string_mk Tryz.underlying9 (by decide)) (by simp only[List.forall_mem_cons];exact⟨⟨_,keyOf_string_mk Tryz.underlying9 (by decide)⟩,⟨_,keyOf_string_mk Tryz.underlying9 (by decide)⟩,⟨_,keyOf_string_mk Tryz.underlying9 (by decide)⟩,⟨_,keyOf_string_mk Tryz.underlying9 (by decide)⟩,fun _ h=>by cases h⟩) (by simp) ?_;clear hT;intro w1 hT hg;replace hB:=mgrown hB hg (Nat.le_refl _) hB.size;clear hg)
  |fail)
 go_ret
 exact⟨_,rfl,hT,hB⟩
theorem reckoning_keys:∀p∈RL,∃m,keyOf Tryz.prog 9 p.1=some m:=by
 unfold RL
 simp only[List.forall_mem_cons]
 exact⟨⟨_,keyOf_string_mk Tryz.underlying9 (by decide)⟩,⟨_,keyOf_string_mk Tryz.underlying9 (by decide)⟩,⟨_,keyOf_string_mk Tryz.underlying9 (by decide)⟩,⟨_,keyOf_string_mk Tryz.underlying9 (by decide)⟩,⟨_,keyOf_string_mk Tryz.underlying9 (by decide)⟩,fun _ h=>by cases h⟩
theorem reckoning_0 {w:World} {b:Nat} (h:Mq w b RL):(Instr.lookup 183 (.map (some b)) (.string ⟨#[43]⟩) true).run Tryz.prog w=.ok (.tuple #[.func (.func 236) #[] #[],.bool true]) w:=
 h.look Tryz.underlying183 (string_keyed Tryz.underlying9) (keyOf_string_mk Tryz.underlying9 (by decide)) (v:=.func (.func 236) #[] #[]) true reckoning_keys ⟨.func (.func 236) #[] #[],by simp[RL]⟩ (by simp[RL])
theorem reckoning_1 {w:World} {b:Nat} (h:Mq w b RL):(Instr.lookup 183 (.map (some b)) (.string ⟨#[45]⟩) true).run Tryz.prog w=.ok (.tuple #[.func (.func 237) #[] #[],.bool true]) w:=
 h.look Tryz.underlying183 (string_keyed Tryz.underlying9) (keyOf_string_mk Tryz.underlying9 (by decide)) (v:=.func (.func 237) #[] #[]) true reckoning_keys ⟨.func (.func 237) #[] #[],by simp[RL]⟩ (by simp[RL])
theorem reckoning_2 {w:World} {b:Nat} (h:Mq w b RL):(Instr.lookup 183 (.map (some b)) (.string ⟨#[42]⟩) true).run Tryz.prog w=.ok (.tuple #[.func (.func 238) #[] #[],.bool true]) w:=
 h.look Tryz.underlying183 (string_keyed Tryz.underlying9) (keyOf_string_mk Tryz.underlying9 (by decide)) (v:=.func (.func 238) #[] #[]) true reckoning_keys ⟨.func (.func 238) #[] #[],by simp[RL]⟩ (by simp[RL])
theorem reckoning_3 {w:World} {b:Nat} (h:Mq w b RL):(Instr.lookup 183 (.map (some b)) (.string ⟨#[37]⟩) true).run Tryz.prog w=.ok (.tuple #[.func (.func 239) #[] #[],.bool true]) w:=
 h.look Tryz.underlying183 (string_keyed Tryz.underlying9) (keyOf_string_mk Tryz.underlying9 (by decide)) (v:=.func (.func 239) #[] #[]) true reckoning_keys ⟨.func (.func 239) #[] #[],by simp[RL]⟩ (by simp[RL])
theorem reckoning_4 {w:World} {b:Nat} (h:Mq w b RL):(Instr.lookup 183 (.map (some b)) (.string ⟨#[33]⟩) true).run Tryz.prog w=.ok (.tuple #[.func (.func 240) #[] #[],.bool true]) w:=
 h.look Tryz.underlying183 (string_keyed Tryz.underlying9) (keyOf_string_mk Tryz.underlying9 (by decide)) (v:=.func (.func 240) #[] #[]) true reckoning_keys ⟨.func (.func 240) #[] #[],by simp[RL]⟩ (by simp[RL])
theorem reckoning_no {w:World} {b:Nat} (h:Mq w b RL) {op:ByteArray} (ho:op.size≤maxLen) (h0:op≠⟨#[43]⟩) (h1:op≠⟨#[45]⟩) (h2:op≠⟨#[42]⟩) (h3:op≠⟨#[37]⟩) (h4:op≠⟨#[33]⟩):(Instr.lookup 183 (.map (some b)) (.string op) true).run Tryz.prog w=.ok (.tuple #[.nilFunc,.bool false]) w:=by
 refine h.miss Tryz.underlying183 (string_keyed Tryz.underlying9) (keyOf_string_mk Tryz.underlying9 ho) true (by kernel_rfl) reckoning_keys ?_
 unfold RL
 simp only[List.forall_mem_cons]
 exact⟨fun e=>h0 (by injection e with e;exact e.symm),fun e=>h1 (by injection e with e;exact e.symm),fun e=>h2 (by injection e with e;exact e.symm),fun e=>h3 (by injection e with e;exact e.symm),fun e=>h4 (by injection e with e;exact e.symm),fun _ h=>by cases h⟩
theorem weighing_is (W:World):Calls Tryz.prog 216 #[] W fun e W'=>∃b,e=.returned (.map (some b))∧Mq W' b WL∧Below W.heap.size W W':=by
 have hmm:=@run_makeMap Tryz.prog
 have hT:=Mq.made W
 have hB:Below W.heap.size W (W.alloc (.map #[] 0)):=(Below.refl _ _).alloc (Nat.le_refl _) _
 go_enter Tryz.func216,Tryz.ntmps216
 go_wp2_with (first
  |(refine wpList_mput _ rfl _ _ _ 186 rfl 9 94 Tryz.underlying186 (string_keyed Tryz.underlying9) W.heap.size [] rfl hT (.string ⟨#[38]⟩) (.func (.func 241) #[] #[]) rfl rfl _ (keyOf_string_mk Tryz.underlying9 (by decide)) (fun _ h=>by cases h) (by simp) ?_;clear hT;intro w1 hT hg;replace hB:=mgrown hB hg (Nat.le_refl _) hB.size;clear hg)
  |(refine wpList_mput _ rfl _ _ _ 186 rfl 9 94 Tryz.underlying186 (string_keyed Tryz.underlying9) W.heap.size [(.string ⟨#[38]⟩,.func (.func 241) #[] #[])] rfl hT (.string ⟨#[124]⟩) (.func (.func 242) #[] #[]) rfl rfl _ (keyOf_string_mk Tryz.underlying9 (by decide)) (by simp only[List.forall_mem_cons];exact⟨⟨_,keyOf_string_mk Tryz.underlying9 (by decide)⟩,fun _ h=>by cases h⟩) (by simp) ?_;clear hT;intro w1 hT hg;replace hB:=mgrown hB hg (Nat.le_refl _) hB.size;clear hg)
  |(refine wpList_mput _ rfl _ _ _ 186 rfl 9 94 Tryz.underlying186 (string_keyed Tryz.underlying9) W.heap.size [(.string ⟨#[38]⟩,.func (.func 241) #[] #[]),(.string ⟨#[124]⟩,.func (.func 242) #[] #[])] rfl hT (.string ⟨#[60]⟩) (.func (.func 243) #[] #[]) rfl rfl _ (keyOf_string_mk Tryz.underlying9 (by decide)) (by simp only[List.forall_mem_cons];exact⟨⟨_,keyOf_string_mk Tryz.underlying9 (by decide)⟩,⟨_,keyOf_string_mk Tryz.underlying9 (by decide)⟩,fun _ h=>by cases h⟩) (by simp) ?_;clear hT;intro w1 hT hg;replace hB:=mgrown hB hg (Nat.le_refl _) hB.size;clear hg)
  |(refine wpList_mput _ rfl _ _ _ 186 rfl 9 94 Tryz.underlying186 (string_keyed Tryz.underlying9) W.heap.size [(.string ⟨#[38]⟩,.func (.func 241) #[] #[]),(.string ⟨#[124]⟩,.func (.func 242) #[] #[]),(.string ⟨#[60]⟩,.func (.func 243) #[] #[])] rfl hT (.string ⟨#[62]⟩) (.func (.func 246) #[] #[]) rfl rfl _ (keyOf_string_mk Tryz.underlying9 (by decide)) (by simp only[List.forall_mem_cons];exact⟨⟨_,keyOf_string_mk Tryz.underlying9 (by decide)⟩,⟨_,keyOf_string_mk Tryz.underlying9 (by decide)⟩,⟨_,keyOf_string_mk Tryz.underlying9 (by decide)⟩,fun _ h=>by cases h⟩) (by simp) ?_;clear hT;intro w1 hT hg;replace hB:=mgrown hB hg (Nat.le_refl _) hB.size;clear hg)
  |(refine wpList_mput _ rfl _ _ _ 186 rfl 9 94 Tryz.underlying186 (string_keyed Tryz.underlying9) W.heap.size [(.string ⟨#[38]⟩,.func (.func 241) #[] #[]),(.string ⟨#[124]⟩,.func (.func 242) #[] #[]),(.string ⟨#[60]⟩,.func (.func 243) #[] #[]),(.string ⟨#[62]⟩,.func (.func 246) #[] #[])] rfl hT (.string ⟨#[61]⟩) (.func (.func 247) #[] #[]) rfl rfl _ (keyOf_string_mk Tryz.underlying9 (by decide)) (by simp only[List.forall_mem_cons];exact⟨⟨_,keyOf_string_mk Tryz.underlying9 (by decide)⟩,⟨_,keyOf_string_mk Tryz.underlying9 (by decide)⟩,⟨_,keyOf_string_mk Tryz.underlying9 (by decide)⟩,⟨_,keyOf_string_mk Tryz.underlying9 (by decide)⟩,fun _ h=>by cases h⟩) (by simp) ?_;clear hT;intro w1 hT hg;replace hB:=mgrown hB hg (Nat.le_refl _) hB.size;clear hg)
  |(refine wpList_mput _ rfl _ _ _ 186 rfl 9 94 Tryz.underlying186 (string_keyed Tryz.underlying9) W.heap.size [(.string ⟨#[38]⟩,.func (.func 241) #[] #[]),(.string ⟨#[124]⟩,.func (.func 242) #[] #[]),(.string ⟨#[60]⟩,.func (.func 243) #[] #[]),(.string ⟨#[62]⟩,.func (.func 246) #[] #[]),(.string ⟨#[61]⟩,.func (.func 247) #[] #[])] rfl hT (.string ⟨#[126]⟩) (.func (.func 248) #[] #[]) rfl rfl _ (keyOf_string_mk Tryz.underlying9 (by decide)) (by simp only[List.forall_mem_cons];exact⟨⟨_,keyOf_string_mk Tryz.underlying9 (by decide)⟩,⟨_,keyOf_string_mk Tryz.underlying9 (by decide)⟩,⟨_,keyOf_string_mk Tryz.underlying9 (by decide)⟩,⟨_,keyOf_string_mk Tryz.underlying9 (by decide)⟩,⟨_,keyOf_string_mk Tryz.underlying9 (by decide)⟩,fun _ h=>by cases h⟩) (by simp) ?_;clear hT;intro w1 hT hg;replace hB:=mgrown hB hg (Nat.le_refl _) hB.size;clear hg)
  |fail)
 go_ret
 exact⟨_,rfl,hT,hB⟩
theorem weighing_keys:∀p∈WL,∃m,keyOf Tryz.prog 9 p.1=some m:=by
 unfold WL
 simp only[List.forall_mem_cons]
 exact⟨⟨_,keyOf_string_mk Tryz.underlying9 (by decide)⟩,⟨_,keyOf_string_mk Tryz.underlying9 (by decide)⟩,⟨_,keyOf_string_mk Tryz.underlying9 (by decide)⟩,⟨_,keyOf_string_mk Tryz.underlying9 (by decide)⟩,⟨_,keyOf_string_mk Tryz.underlying9 (by decide)⟩,⟨_,keyOf_string_mk Tryz.underlying9 (by decide)⟩,fun _ h=>by cases h⟩
theorem weighing_0 {w:World} {b:Nat} (h:Mq w b WL):(Instr.lookup 186 (.map (some b)) (.string ⟨#[38]⟩) true).run Tryz.prog w=.ok (.tuple #[.func (.func 241) #[] #[],.bool true]) w:=
 h.look Tryz.underlying186 (string_keyed Tryz.underlying9) (keyOf_string_mk Tryz.underlying9 (by decide)) (v:=.func (.func 241) #[] #[]) true weighing_keys ⟨.func (.func 241) #[] #[],by simp[WL]⟩ (by simp[WL])
theorem weighing_1 {w:World} {b:Nat} (h:Mq w b WL):(Instr.lookup 186 (.map (some b)) (.string ⟨#[124]⟩) true).run Tryz.prog w=.ok (.tuple #[.func (.func 242) #[] #[],.bool true]) w:=
 h.look Tryz.underlying186 (string_keyed Tryz.underlying9) (keyOf_string_mk Tryz.underlying9 (by decide)) (v:=.func (.func 242) #[] #[]) true weighing_keys ⟨.func (.func 242) #[] #[],by simp[WL]⟩ (by simp[WL])
theorem weighing_2 {w:World} {b:Nat} (h:Mq w b WL):(Instr.lookup 186 (.map (some b)) (.string ⟨#[60]⟩) true).run Tryz.prog w=.ok (.tuple #[.func (.func 243) #[] #[],.bool true]) w:=
 h.look Tryz.underlying186 (string_keyed Tryz.underlying9) (keyOf_string_mk Tryz.underlying9 (by decide)) (v:=.func (.func 243) #[] #[]) true weighing_keys ⟨.func (.func 243) #[] #[],by simp[WL]⟩ (by simp[WL])
theorem weighing_3 {w:World} {b:Nat} (h:Mq w b WL):(Instr.lookup 186 (.map (some b)) (.string ⟨#[62]⟩) true).run Tryz.prog w=.ok (.tuple #[.func (.func 246) #[] #[],.bool true]) w:=
 h.look Tryz.underlying186 (string_keyed Tryz.underlying9) (keyOf_string_mk Tryz.underlying9 (by decide)) (v:=.func (.func 246) #[] #[]) true weighing_keys ⟨.func (.func 246) #[] #[],by simp[WL]⟩ (by simp[WL])
theorem weighing_4 {w:World} {b:Nat} (h:Mq w b WL):(Instr.lookup 186 (.map (some b)) (.string ⟨#[61]⟩) true).run Tryz.prog w=.ok (.tuple #[.func (.func 247) #[] #[],.bool true]) w:=
 h.look Tryz.underlying186 (string_keyed Tryz.underlying9) (keyOf_string_mk Tryz.underlying9 (by decide)) (v:=.func (.func 247) #[] #[]) true weighing_keys ⟨.func (.func 247) #[] #[],by simp[WL]⟩ (by simp[WL])
theorem weighing_5 {w:World} {b:Nat} (h:Mq w b WL):(Instr.lookup 186 (.map (some b)) (.string ⟨#[126]⟩) true).run Tryz.prog w=.ok (.tuple #[.func (.func 248) #[] #[],.bool true]) w:=
 h.look Tryz.underlying186 (string_keyed Tryz.underlying9) (keyOf_string_mk Tryz.underlying9 (by decide)) (v:=.func (.func 248) #[] #[]) true weighing_keys ⟨.func (.func 248) #[] #[],by simp[WL]⟩ (by simp[WL])
theorem weighing_no {w:World} {b:Nat} (h:Mq w b WL) {op:ByteArray} (ho:op.size≤maxLen) (h0:op≠⟨#[38]⟩) (h1:op≠⟨#[124]⟩) (h2:op≠⟨#[60]⟩) (h3:op≠⟨#[62]⟩) (h4:op≠⟨#[61]⟩) (h5:op≠⟨#[126]⟩):(Instr.lookup 186 (.map (some b)) (.string op) true).run Tryz.prog w=.ok (.tuple #[.nilFunc,.bool false]) w:=by
 refine h.miss Tryz.underlying186 (string_keyed Tryz.underlying9) (keyOf_string_mk Tryz.underlying9 ho) true (by kernel_rfl) weighing_keys ?_
 unfold WL
 simp only[List.forall_mem_cons]
 exact⟨fun e=>h0 (by injection e with e;exact e.symm),fun e=>h1 (by injection e with e;exact e.symm),fun e=>h2 (by injection e with e;exact e.symm),fun e=>h3 (by injection e with e;exact e.symm),fun e=>h4 (by injection e with e;exact e.symm),fun e=>h5 (by injection e with e;exact e.symm),fun _ h=>by cases h⟩
theorem turning_is (W:World):Calls Tryz.prog 222 #[] W fun e W'=>∃b,e=.returned (.map (some b))∧Mq W' b ML∧Below W.heap.size W W':=by
 have hmm:=@run_makeMap Tryz.prog
 have hT:=Mq.made W
 have hB:Below W.heap.size W (W.alloc (.map #[] 0)):=(Below.refl _ _).alloc (Nat.le_refl _) _
 go_enter Tryz.func222,Tryz.ntmps222
 go_wp2_with (first
  |(refine wpList_mput _ rfl _ _ _ 201 rfl 9 139 Tryz.underlying201 (string_keyed Tryz.underlying9) W.heap.size [] rfl hT (.string ⟨#[45]⟩) (.func (.func 250) #[] #[]) rfl rfl _ (keyOf_string_mk Tryz.underlying9 (by decide)) (fun _ h=>by cases h) (by simp) ?_;clear hT;intro w1 hT hg;replace hB:=mgrown hB hg (Nat.le_refl _) hB.size;clear hg)
  |(refine wpList_mput _ rfl _ _ _ 201 rfl 9 139 Tryz.underlying201 (string_keyed Tryz.underlying9) W.heap.size [(.string ⟨#[45]⟩,.func (.func 250) #[] #[])] rfl hT (.string ⟨#[126]⟩) (.func (.func 251) #[] #[]) rfl rfl _ (keyOf_string_mk Tryz.underlying9 (by decide)) (by simp only[List.forall_mem_cons];exact⟨⟨_,keyOf_string_mk Tryz.underlying9 (by decide)⟩,fun _ h=>by cases h⟩) (by simp) ?_;clear hT;intro w1 hT hg;replace hB:=mgrown hB hg (Nat.le_refl _) hB.size;clear hg)
  |(refine wpList_mput _ rfl _ _ _ 201 rfl 9 139 Tryz.underlying201 (string_keyed Tryz.underlying9) W.heap.size [(.string ⟨#[45]⟩,.func (.func 250) #[] #[]),(.string ⟨#[126]⟩,.func (.func 251) #[] #[])] rfl hT (.string ⟨#[42]⟩) (.func (.func 253) #[] #[]) rfl rfl _ (keyOf_string_mk Tryz.underlying9 (by decide)) (by simp only[List.forall_mem_cons];exact⟨⟨_,keyOf_string_mk Tryz.underlying9 (by decide)⟩,⟨_,keyOf_string_mk Tryz.underlying9 (by decide)⟩,fun _ h=>by cases h⟩) (by simp) ?_;clear hT;intro w1 hT hg;replace hB:=mgrown hB hg (Nat.le_refl _) hB.size;clear hg)
  |fail)
 go_ret
 exact⟨_,rfl,hT,hB⟩
theorem turning_keys:∀p∈ML,∃m,keyOf Tryz.prog 9 p.1=some m:=by
 unfold ML
 simp only[List.forall_mem_cons]
 exact⟨⟨_,keyOf_string_mk Tryz.underlying9 (by decide)⟩,⟨_,keyOf_string_mk Tryz.underlying9 (by decide)⟩,⟨_,keyOf_string_mk Tryz.underlying9 (by decide)⟩,fun _ h=>by cases h⟩
theorem turning_0 {w:World} {b:Nat} (h:Mq w b ML):(Instr.lookup 201 (.map (some b)) (.string ⟨#[45]⟩) true).run Tryz.prog w=.ok (.tuple #[.func (.func 250) #[] #[],.bool true]) w:=
 h.look Tryz.underlying201 (string_keyed Tryz.underlying9) (keyOf_string_mk Tryz.underlying9 (by decide)) (v:=.func (.func 250) #[] #[]) true turning_keys ⟨.func (.func 250) #[] #[],by simp[ML]⟩ (by simp[ML])
theorem turning_1 {w:World} {b:Nat} (h:Mq w b ML):(Instr.lookup 201 (.map (some b)) (.string ⟨#[126]⟩) true).run Tryz.prog w=.ok (.tuple #[.func (.func 251) #[] #[],.bool true]) w:=
 h.look Tryz.underlying201 (string_keyed Tryz.underlying9) (keyOf_string_mk Tryz.underlying9 (by decide)) (v:=.func (.func 251) #[] #[]) true turning_keys ⟨.func (.func 251) #[] #[],by simp[ML]⟩ (by simp[ML])
theorem turning_2 {w:World} {b:Nat} (h:Mq w b ML):(Instr.lookup 201 (.map (some b)) (.string ⟨#[42]⟩) true).run Tryz.prog w=.ok (.tuple #[.func (.func 253) #[] #[],.bool true]) w:=
 h.look Tryz.underlying201 (string_keyed Tryz.underlying9) (keyOf_string_mk Tryz.underlying9 (by decide)) (v:=.func (.func 253) #[] #[]) true turning_keys ⟨.func (.func 253) #[] #[],by simp[ML]⟩ (by simp[ML])
theorem turning_no {w:World} {b:Nat} (h:Mq w b ML) {op:ByteArray} (ho:op.size≤maxLen) (h0:op≠⟨#[45]⟩) (h1:op≠⟨#[126]⟩) (h2:op≠⟨#[42]⟩):(Instr.lookup 201 (.map (some b)) (.string op) true).run Tryz.prog w=.ok (.tuple #[.nilFunc,.bool false]) w:=by
 refine h.miss Tryz.underlying201 (string_keyed Tryz.underlying9) (keyOf_string_mk Tryz.underlying9 ho) true (by kernel_rfl) turning_keys ?_
 unfold ML
 simp only[List.forall_mem_cons]
 exact⟨fun e=>h0 (by injection e with e;exact e.symm),fun e=>h1 (by injection e with e;exact e.symm),fun e=>h2 (by injection e with e;exact e.symm),fun _ h=>by cases h⟩
end Go.Proofs.YtbijncndjlmmdaaGreatDoor

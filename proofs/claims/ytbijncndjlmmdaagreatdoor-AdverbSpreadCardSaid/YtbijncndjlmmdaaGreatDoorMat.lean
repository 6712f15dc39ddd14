import Derived.Test.YtbijncndjlmmdaaGreatDoorMas
import Derived.Deep.RegionHeld3
import Derived.Deep.DeepCutAuto
import Derived.Test.YtbijncndjlmmdaaGreatDoorMaq
import Derived.Test.YtbijncndjlmmdaaGreatDoorMan
import Derived.Deep.RegionLaw
import Derived.Deep.AppendLies
import Derived.Test.YtbijncndjlmmdaaGreatDoorMar
import Derived.Test.YtbijncndjlmmdaaGreatDoorMam
import Derived.WalkKit
import Derived.WalkSpells
import Derived.WalkLawsBesides
import Derived.Lib.Hide
import Derived.BigQuiet
import Derived.Deep.QuietTactic
import Derived.Deep.RegionWith
import Derived.Deep.OwnRows
set_option maxHeartbeats 6400000
set_option maxRecDepth 100000
namespace Go.Proofs.YtbijncndjlmmdaaGreatDoor
set_option linter.unusedVariables false
set_option linter.unusedSimpArgs false
open Go.RowKit
def mnS (k:Nat) (xs:List Int) (i:Nat):List Value:=valsS (((xs.take i).map (mnZ k)).map S)
theorem mnS_succ {k i:Nat} {xs:List Int} (hi:i<xs.length):mnS k xs i++[.string (S (mnZ k (xs.getD i 0)))]=mnS k xs (i+1):=by
 unfold mnS
 rw[List.take_succ_eq_append_getElem hi,List.map_append,List.map_append,List.getD_eq_getElem?_getD,List.getElem?_eq_getElem hi]
 exact(valsS_snoc _ _).symm
theorem mnS_all {k:Nat} {xs:List Int} {n:Nat} (h:n=xs.length):mnS k xs n=valsS ((xs.map (mnZ k)).map S):=by
 unfold mnS
 rw[h,List.take_of_length_le (Nat.le_refl _)]
theorem mono_is {op:ByteArray} (ho:op.size≤maxLen) (hk:kmL op.data.toList<3) {x:Int} (hx:x.natAbs<lim):MnIs op (S x) (S (mnZ (kmL op.data.toList) x)) 0:=by
 have h:=mn_ok ho (show Is (S x) (some x)from⟨rfl,hx⟩)
 simp only[mnO,mnI_ok hk]at h
 exact h
theorem fails_val {w5 w0:World} {g:Nat} (h:Bx w5 g none 0 0 none 0 0) (hb:Below w0.heap.size w0 w5) (hg:w0.heap.size≤g) (ec:Int):
 Bx ((w5.setCell ⟨g,0,none⟩ (.slice none 0 0)).setCell ⟨g,1,none⟩ (.slice none 0 0)) g none 0 0 none 0 0
 ∧AEnd [] [] ec w0 (.returned (.tuple #[.agg #[.slice none 0 0,.slice none 0 0],.int .i64 ec])) ((w5.setCell ⟨g,0,none⟩ (.slice none 0 0)).setCell ⟨g,1,none⟩ (.slice none 0 0)):=
 ⟨h.set none 0 0 none 0 0,none,0,0,none,0,0,rfl,Vl.none_ _,⟨by omega,by unfold maxLen;omega,by omega,by unfold maxLen;omega⟩,below_made hb hg _ _⟩
theorem Bx.newS (W:World) (g:Nat) (hg:W.heap.size=g) (a:Option Addr) (n c:Nat) (b:Option Addr) (m d:Nat):Bx (W.alloc (.cells #[.slice a n c,.slice b m d] 25)) g a n c b m d:=by rw[←hg];exact Bx.new W a n c b m d
theorem MsSign_is (op:ByteArray) (ho:op.size≤maxLen) (w:World):Calls Tryz.prog 196 #[.string op,.string ⟨#[45,126,42]⟩] w (BoolEnd (decide (kmL op.data.toList<3)) w):=by
 have K2:=isSign_is op ⟨#[45,126,42]⟩ ho w
 rw[show(⟨#[45,126,42]⟩:ByteArray).data.toList=[45,126,42]from rfl,sig_km]at K2
 exact K2
section
variable {op:ByteArray} {a b:Option Addr} {n c m d:Nat} {l:List Int} {es:List ByteArray}
theorem SMonad_sign (W:World) (hW:SM W) (ho:op.size≤maxLen) (hk:¬kmL op.data.toList<3):
 Calls Tryz.prog 162 #[.string op,.agg #[.slice a n c,.slice b m d]] W (AEnd [] [] 1 W):=by
 have KS:=fun w=>MsSign_is op ho w
 rw[decide_eq_false hk]at KS
 replace KS:=Lib.hid KS
 have hb0:Below W.heap.size W ((W.alloc (.cells #[.slice a n c,.slice b m d] 25)).alloc (.cells #[.slice none 0 0,.slice none 0 0] 25)):=((Below.refl _ _).alloc (Nat.le_refl _) _).alloc (by simp) _
 have hR:=Bx.newS (W.alloc (.cells #[.slice a n c,.slice b m d] 25)) (W.heap.size+1) (by simp) none 0 0 none 0 0
 have KM:=Lib.hid (ms_ok _ (hW.below hb0))
 clear hW ho hk
 go_enter Tryz.func162,Tryz.ntmps162
 go_wp2_with fail
 refine KM.out.mono ?_
 rintro e w1 ⟨rfl,hq⟩
 have hR1:=hR.below hq hR.lt
 have hb1:=hb0.trans (hq.mono hb0.size)
 clear hR hb0 hq KM
 go_wp2_with fail
 refine(KS.out _).mono ?_
 rintro e w2 ⟨rfl,hq⟩
 have hR2:=hR1.below hq hR1.lt
 have hb2:=hb1.trans (hq.mono hb1.size)
 clear hR1 hb1 hq
 have r0:=hR2.c0
 have r1:=hR2.c1
 have f0:=hR2.f 0
 have f1:=hR2.f 1
 have HR:=Lib.hid hR2
 have HB:=Lib.hid hb2
 clear hR2 hb2
 go_wp2_with fail
 obtain⟨h1,h3⟩:=fails_val HR.out HB.out (by omega) 1
 have b0:=h1.c0
 have b1:=h1.c1
 exact bodyPost_ret (v:=.tuple #[.agg #[.slice none 0 0,.slice none 0 0],.int .i64 1]) (by simp[results,Tryz.results162,go_sem,b0,b1]) rfl h3
theorem SMonad_no (W:World) (hW:SM W) (ho:op.size≤maxLen) (hk:kmL op.data.toList<3) (hV:Vl W a n b m l es) (hz:∀j,j<m→(es.getD j ByteArray.empty).size≤maxLen) (hm:mayV l es=false):
 Calls Tryz.prog 162 #[.string op,.agg #[.slice a n c,.slice b m d]] W (AEnd [] [] 1 W):=by
 have KS:=fun w=>MsSign_is op ho w
 rw[decide_eq_true hk]at KS
 replace KS:=Lib.hid KS
 have KV:=fun w (hb:Below W.heap.size W w)=>VMay_is (c:=c) (d:=d) w (hV.below hb) hz
 rw[hm]at KV
 replace KV:=Lib.hid KV
 have hb0:Below W.heap.size W ((W.alloc (.cells #[.slice a n c,.slice b m d] 25)).alloc (.cells #[.slice none 0 0,.slice none 0 0] 25)):=((Below.refl _ _).alloc (Nat.le_refl _) _).alloc (by simp) _
 have hA:=(Bx.new W a n c b m d).alloc (.cells #[.slice none 0 0,.slice none 0 0] 25)
 have hR:=Bx.newS (W.alloc (.cells #[.slice a n c,.slice b m d] 25)) (W.heap.size+1) (by simp) none 0 0 none 0 0
 have KM:=Lib.hid (ms_ok _ (hW.below hb0))
 clear hW ho hk hV hz hm
 go_enter Tryz.func162,Tryz.ntmps162
 go_wp2_with fail
 refine KM.out.mono ?_
 rintro e w1 ⟨rfl,hq⟩
 have hA1:=hA.below hq hA.lt
 have hR1:=hR.below hq hR.lt
 have hb1:=hb0.trans (hq.mono hb0.size)
 clear hA hR hb0 hq KM
 go_wp2_with fail
 refine(KS.out _).mono ?_
 rintro e w2 ⟨rfl,hq⟩
 have hA2:=hA1.below hq hA1.lt
 have hR2:=hR1.below hq hR1.lt
 have hb2:=hb1.trans (hq.mono hb1.size)
 clear hA1 hR1 hb1 hq
 have x0:=hA2.c0
 have x1:=hA2.c1
 go_wp2_with fail
 refine(KV.out _ hb2).mono ?_
 rintro e w3 ⟨rfl,hq⟩
 have hR3:=hR2.below hq hR2.lt
 have hb3:=hb2.trans (hq.mono hb2.size)
 clear hA2 hR2 hb2 hq x0 x1
 have r0:=hR3.c0
 have r1:=hR3.c1
 have f0:=hR3.f 0
 have f1:=hR3.f 1
 have HR:=Lib.hid hR3
 have HB:=Lib.hid hb3
 clear hR3 hb3
 go_wp2_with fail
 obtain⟨h1,h3⟩:=fails_val HR.out HB.out (by omega) 1
 have b0:=h1.c0
 have b1:=h1.c1
 exact bodyPost_ret (v:=.tuple #[.agg #[.slice none 0 0,.slice none 0 0],.int .i64 1]) (by simp[results,Tryz.results162,go_sem,b0,b1]) rfl h3
theorem SMonad_yes {xs:List Int} (W:World) (hW:SM W) (ho:op.size≤maxLen) (hk:kmL op.data.toList<3) (hV:Vl W a n b m l es) (hz:∀j,j<m→(es.getD j ByteArray.empty).size≤maxLen) (A1:AIs l es (some (l,xs))):
 Calls Tryz.prog 162 #[.string op,.agg #[.slice a n c,.slice b m d]] W (AEnd l ((xs.map (mnZ (kmL op.data.toList))).map S) 0 W):=by
 obtain⟨_,e1,s1,p1,q1⟩:=A1.len
 simp only at e1 p1 q1
 have hn:n≤20:=by have:=(szE_may.1 s1).len;rw[hV.s.1]at this;omega
 have hm4:m≤4096:=by have:=(szE_may.1 s1).pr;have:=hV.t.1;omega
 have hmx:m=xs.length:=by have:=hV.t.1;omega
 have KS:=fun w=>MsSign_is op ho w
 rw[decide_eq_true hk]at KS
 replace KS:=Lib.hid KS
 have KV:=fun w (hb:Below W.heap.size W w)=>VMay_is (c:=c) (d:=d) w (hV.below hb) hz
 rw[A1.may]at KV
 replace KV:=Lib.hid KV
 have KO:=Lib.hid (fun x (hx:x∈xs)=>mono_is ho hk (q1 x hx))
 have KC:=Lib.hid (fun w (hb:Below W.heap.size W w)=>Clone_c a n c l w (hV.s.below hb) hn)
 have HX:=Lib.hid A1.2.1
 have HM:=Lib.hid hmx
 have HV:=Lib.hid hV
 have HW:=Lib.hid hW
 have hb0:Below W.heap.size W ((W.alloc (.cells #[.slice a n c,.slice b m d] 25)).alloc (.cells #[.slice none 0 0,.slice none 0 0] 25)):=((Below.refl _ _).alloc (Nat.le_refl _) _).alloc (by simp) _
 have hA:=(Bx.new W a n c b m d).alloc (.cells #[.slice none 0 0,.slice none 0 0] 25)
 have hR:=Bx.newS (W.alloc (.cells #[.slice a n c,.slice b m d] 25)) (W.heap.size+1) (by simp) none 0 0 none 0 0
 have KM:=Lib.hid (ms_ok _ (hW.below hb0))
 generalize kmL op.data.toList=k at*
 clear hW ho hk hV hz A1 e1 p1 q1 hmx s1
 go_enter Tryz.func162,Tryz.ntmps162
 go_wp2_with fail
 refine KM.out.mono ?_
 rintro e w1 ⟨rfl,hq⟩
 have hA1:=hA.below hq hA.lt
 have hR1:=hR.below hq hR.lt
 have hb1:=hb0.trans (hq.mono hb0.size)
 clear hA hR hb0 hq KM
 go_wp2_with fail
 refine(KS.out _).mono ?_
 rintro e w2 ⟨rfl,hq⟩
 have hA2:=hA1.below hq hA1.lt
 have hR2:=hR1.below hq hR1.lt
 have hb2:=hb1.trans (hq.mono hb1.size)
 clear hA1 hR1 hb1 hq
 have x0:=hA2.c0
 have x1:=hA2.c1
 go_wp2_with fail
 refine(KV.out _ hb2).mono ?_
 rintro e w3 ⟨rfl,hq⟩
 have hA3:=hA2.below hq hA2.lt
 have hR3:=hR2.below hq hR2.lt
 have hb3:=hb2.trans (hq.mono hb2.size)
 clear hA2 hR2 hb2 hq x0 x1
 have x0:=hA3.c0
 have x1:=hA3.c1
 have lR:W.heap.size+1<w3.heap.size:=hR3.lt
 go_wp2_with fail
 go_loopw [6,24] (fun ev iv wr=>∃i:Nat,iv=.int .i64 i∧i≤m∧wr.ownsRow w3.heap.size 9 1 ev i (mnS k xs i)∧Below w3.heap.size w3 wr) (fun _ iv _=>m-(intOf iv).toNat)
 case atStart=>exact⟨0,rfl,by omega,World.ownsRow_nil _ _ _ _,Below.refl _ _⟩
 case round=>
  obtain⟨i,rfl,hi,ho,hb⟩:=hrel
  by_cases hlt:i<m
  · have e2:(i:Int)<(m:Int):=by omega
    have hbW:=hb3.trans (hb.mono hb3.size)
    have hVr:=HV.out.below hbW
    obtain⟨gb,off,rfl,hc⟩:=hVr.t.2 (by omega)
    have hck:=hc i hlt
    have hxi:i<xs.length:=by have:=HM.out;omega
    rw[HX.out,getD_S hxi]at hck
    have KX:=Lib.hid (KO.out (xs.getD i 0) (by rw[List.getD_eq_getElem?_getD,List.getElem?_eq_getElem hxi];exact List.getElem_mem hxi) wr (HW.out.below hbW).sc)
    have HTK:=Lib.hid (mnS_succ (k:=k) hxi)
    have HO:=Lib.hid ho
    have HB:=Lib.hid hb
    generalize S (mnZ k (xs.getD i 0))=tk at*
    generalize S (xs.getD i 0)=sx at*
    clear ho hb hc hVr hbW x0 x1 hA3 hR3 hb3
    go_wp2_with fail
    refine KX.out.mono ?_
    rintro e w5 ⟨rfl,hb5⟩
    have HO5:=Lib.hid (own_below HO.out hb5)
    have HB5:=Lib.hid (HB.out.trans (hb5.mono HB.out.size))
    have hsz:=HB5.out.size
    clear hb5 KX HO HB hck
    obtain⟨av,cv,rfl⟩:=own_form HO5.out
    obtain⟨i0,hi0,hz0,hz1,hz2⟩:=info_parts infoStr
    go_wp2_with (at_builtin;refine wpList_append_own _ rfl _ _ 23 rfl (w3.heap.size) 9 i0 (.string ⟨#[]⟩) 1 16 Tryz.underlying23 hi0 hz0 hz1 hz2 rfl (by decide) _ _ _ rfl (HO5.out.alloc _) ⟨w5.heap.size,0,none⟩ 1 1 [.string tk] rfl rfl (cell_one_new _ _ _) (by simp[Value.oneCell']) (by unfold maxLen;omega) (by omega) (by simp;omega) ?_;intro v1 w6 hown1 hg1 _)
    have hb6:Below w3.heap.size w3 w6:=(HB5.out.alloc HB5.out.size _).grown hg1 (by simp;omega) (fun q hq=>by have:=(HO5.out.lt q hq).1;omega)
    rw[HTK.out]at hown1
    have HO6:=Lib.hid hown1
    have HB6:=Lib.hid hb6
    clear hown1 hb6 hg1 HO5 HB5
    go_wp2_with fail
    go_roundw
    case rel=>exact⟨i+1,by go_num,by omega,HO6.out,HB6.out⟩
    case measure=>simp[intOf];omega
  have e2:¬(i:Int)<(m:Int):=by omega
  obtain rfl:i=m:=by omega
  obtain⟨av,cv,rfl⟩:=own_form ho
  have hAr:=hA3.below hb hA3.lt
  have hRr:=hR3.below hb hR3.lt
  have hbr:=hb3.trans (hb.mono hb3.size)
  have KC1:=Lib.hid (KC.out wr hbr)
  rw[mnS_all HM.out]at ho
  clear x0 x1 hA3 hR3 hb3 KO KC KS KV hb
  have x0:=hAr.c0
  have x1:=hAr.c1
  go_wp2_with fail
  refine KC1.out.mono ?_
  rintro e w5 ⟨a',n',c',rfl,hs,hn',q1,q2,hq⟩
  have hR5:=hRr.below hq hRr.lt
  have ho5:=own_below ho hq
  have hb5:=hbr.trans (hq.mono hbr.size)
  clear hAr hRr ho hbr x0 x1 KC1 hq
  have r0:=hR5.c0
  have r1:=hR5.c1
  have f0:=hR5.f 0
  have f1:=hR5.f 1
  go_wp2_with fail
  have hB6:=hR5.set a' n' c' av i cv
  have b0:=hB6.c0
  have b1:=hB6.c1
  have hc:=own_caps ho5
  exact bodyPost_ret (v:=.tuple #[.agg #[.slice a' n' c',.slice av i cv],.int .i64 0]) (by simp[results,Tryz.results162,go_sem,b0,b1]) rfl
   ⟨a',n',c',av,i,cv,rfl,⟨hR5.sl hs _ _,hR5.st (own_st ho5) _ _,by omega⟩,⟨q1,q2,hc.1,hc.2⟩,below_made hb5 (by omega) _ _⟩
end
theorem SMonad_is {op:ByteArray} {a b:Option Addr} {n c m d:Nat} {l:List Int} {es:List ByteArray} {o:Option Ar} (W:World) (hW:SM W) (ho:op.size≤maxLen) (hV:Vl W a n b m l es) (hz:∀j,j<m→(es.getD j ByteArray.empty).size≤maxLen) (A1:AIs l es o):
 Calls Tryz.prog 162 #[.string op,.agg #[.slice a n c,.slice b m d]] W (AEnd (TS (mnA (kmL op.data.toList) o).1).1 (TS (mnA (kmL op.data.toList) o).1).2 (mnA (kmL op.data.toList) o).2 W):=by
 by_cases hk:kmL op.data.toList<3
 · cases o with
   |none=>exact SMonad_no W hW ho hk hV hz A1
   |some q=>
    obtain⟨l',xs⟩:=q
    obtain⟨g1,_⟩:=A1.len
    simp only at g1
    subst g1
    have e:mnA (kmL op.data.toList) (some (l',xs))=(some (l',xs.map (mnZ (kmL op.data.toList))),0):=by simp only[mnA];rw[if_neg (by omega)]
    rw[e]
    exact SMonad_yes W hW ho hk hV hz A1
 · have e:mnA (kmL op.data.toList) o=(none,1):=by
    cases o with
    |none=>rfl
    |some q=>obtain⟨l',xs⟩:=q;simp only[mnA];rw[if_pos hk]
   rw[e]
   exact SMonad_sign W hW ho hk
end Go.Proofs.YtbijncndjlmmdaaGreatDoor
namespace Go.Proofs.YtbijncndjlmmdaaGreatDoor
set_option linter.unusedVariables false
set_option linter.unusedSimpArgs false
open Go.RowKit
theorem ais_sz {l:List Int} {es:List ByteArray} {q:Ar} (h:AIs l es (some q)) {m:Nat} (hm:m=es.length):∀j,j<m→(es.getD j ByteArray.empty).size≤maxLen:=by
 intro j hj
 obtain⟨_,h2,_,h4⟩:=h
 have hl:j<q.2.length:=by rw[hm,h2,List.length_map]at hj;exact hj
 rw[h2,getD_S hl]
 exact(show Is (S (q.2.getD j 0)) (some (q.2.getD j 0))from⟨rfl,getD_bd h4 j⟩).size
theorem ts_sz {o:Option Ar} (h:AIs (TS o).1 (TS o).2 o) {m:Nat} (hm:m=(TS o).2.length):∀j,j<m→((TS o).2.getD j ByteArray.empty).size≤maxLen:=by
 cases o with
 |none=>
  intro j hj
  rw[hm]at hj
  exact absurd hj (by simp[TS])
 |some q=>exact ais_sz h hm
end Go.Proofs.YtbijncndjlmmdaaGreatDoor
namespace Go.Proofs.YtbijncndjlmmdaaGreatDoor
set_option linter.unusedVariables false
set_option linter.unusedSimpArgs false
open Go.RowKit
def OwI (W W':World) (a:Option Addr) (n c:Nat) (l:List Int):Prop:=W'.ownsRow W.heap.size 3 1 (.slice a n c) n (valsI l)
def OwS (W W':World) (a:Option Addr) (n c:Nat) (l:List ByteArray):Prop:=W'.ownsRow W.heap.size 9 1 (.slice a n c) n (valsS l)
def ClI (n:Nat) (l:List Int) (W:World) (x:Ending) (W':World):Prop:=∃a c,x=.returned (.slice a n c)∧OwI W W' a n c l∧Below W.heap.size W W'
def ClS (n:Nat) (l:List ByteArray) (W:World) (x:Ending) (W':World):Prop:=∃a c,x=.returned (.slice a n c)∧OwS W W' a n c l∧Below W.heap.size W W'
theorem Clone_o (a:Option Addr) (n c:Nat) (l:List Int) (W:World) (h:Sl W a n l) (hn:n≤1000000):Calls Tryz.prog 71 #[.slice a n c] W (ClI n l W):=by
 have hl:=h.1
 subst hl
 rcases a with _|a
 · have h0:l.length=0:=by
    rcases Nat.eq_zero_or_pos l.length with h0|h0
    · exact h0
    · obtain⟨b,off,e,_⟩:=h.2 h0;cases e
   obtain rfl:=List.length_eq_zero_iff.1 h0
   refine(Tryz.slices_Clone_int_nil 0 c W).mono ?_
   rintro x w ⟨rfl,rfl⟩
   exact⟨none,0,rfl,World.ownsRow_nil _ _ _ _,Below.refl _ _⟩
 · by_cases h0:l.length=0
   · obtain rfl:=List.length_eq_zero_iff.1 h0
     refine(Tryz.slices_Clone_int_zero a c W).mono ?_
     rintro x w ⟨v',rfl,hown,_,hb⟩
     obtain⟨a',c',rfl⟩:=own_form hown
     exact⟨a',c',rfl,hown,hb⟩
   · obtain⟨b,off,e,hc⟩:=h.2 (by omega)
     injection e with e
     subst e
     refine(Tryz.slices_Clone_int b off l.length c l W (Nat.le_refl _) (by omega) (fun j hj=>hc j hj)).mono ?_
     rintro x w ⟨v',rfl,hown,_,hb⟩
     rw[List.take_of_length_le (Nat.le_refl _)]at hown
     obtain⟨a',c',rfl⟩:=own_form hown
     exact⟨a',c',rfl,hown,hb⟩
theorem CloneS_o (a:Option Addr) (n c:Nat) (es:List ByteArray) (W:World) (h:St W a n es) (hn:n≤1000000):Calls Tryz.prog 66 #[.slice a n c] W (ClS n es W):=by
 have hl:=h.1
 subst hl
 rcases a with _|a
 · have h0:es.length=0:=by
    rcases Nat.eq_zero_or_pos es.length with h0|h0
    · exact h0
    · obtain⟨b,off,e,_⟩:=h.2 h0;cases e
   obtain rfl:=List.length_eq_zero_iff.1 h0
   refine(Tryz.slices_Clone_string_nil 0 c W).mono ?_
   rintro x w ⟨rfl,rfl⟩
   exact⟨none,0,rfl,World.ownsRow_nil _ _ _ _,Below.refl _ _⟩
 · by_cases h0:es.length=0
   · obtain rfl:=List.length_eq_zero_iff.1 h0
     refine(Tryz.slices_Clone_string_zero a c W).mono ?_
     rintro x w ⟨v',rfl,hown,_,hb⟩
     obtain⟨a',c',rfl⟩:=own_form hown
     exact⟨a',c',rfl,hown,hb⟩
   · obtain⟨b,off,e,hc⟩:=h.2 (by omega)
     injection e with e
     subst e
     refine(Tryz.slices_Clone_string b off es.length c es W (Nat.le_refl _) (by omega) (fun j hj=>hc j hj)).mono ?_
     rintro x w ⟨v',rfl,hown,_,hb⟩
     rw[List.take_of_length_le (Nat.le_refl _)]at hown
     obtain⟨a',c',rfl⟩:=own_form hown
     exact⟨a',c',rfl,hown,hb⟩
theorem OwI.sl {W w:World} {a:Option Addr} {n c:Nat} {l:List Int} (h:OwI W w a n c l):Sl w a n l:=own_sl h
theorem OwS.st {W w:World} {a:Option Addr} {n c:Nat} {l:List ByteArray} (h:OwS W w a n c l):St w a n l:=own_st h
theorem OwI.caps {W w:World} {a:Option Addr} {n c:Nat} {l:List Int} (h:OwI W w a n c l):n≤c∧c≤maxLen:=own_caps h
theorem OwS.caps {W w:World} {a:Option Addr} {n c:Nat} {l:List ByteArray} (h:OwS W w a n c l):n≤c∧c≤maxLen:=own_caps h
structure Av (W:World) (a:Option Addr) (n c:Nat) (b:Option Addr) (m d:Nat) (l:List Int) (es:List ByteArray) (o:Option Ar):Prop where
 v:Vl W a n b m l es
 c:Cp n c m d
 z:∀j,j<m→(es.getD j ByteArray.empty).size≤maxLen
 i:AIs l es o
def Rok:Option Ar→Prop
 |none=>True
 |some q=>szE q.1=0∧(q.2.length:Int)=pr q.1∧∀x∈q.2,x.natAbs<lim
theorem Rok.ais:∀{o:Option Ar},Rok o→AIs (TS o).1 (TS o).2 o
 |none,_=>ais_none
 |some _,h=>ais_of h.1 h.2.1 h.2.2
theorem AIs.rok {l:List Int} {es:List ByteArray}:∀{o:Option Ar},AIs l es o→Rok o
 |none,_=>trivial
 |some _,h=>by
  obtain⟨h1,_,h3,h4,h5⟩:=h.len
  exact⟨by rw[h1];exact h3,by rw[h1];exact h4,h5⟩
theorem Rok.sz {o:Option Ar} (h:Rok o) {m:Nat} (hm:m=(TS o).2.length):∀j,j<m→((TS o).2.getD j ByteArray.empty).size≤maxLen:=by
 cases o with
 |none=>intro j hj;rw[hm]at hj;cases hj
 |some q=>exact ais_sz h.ais hm
section
variable {W w:World} {a b:Option Addr} {n c m d:Nat} {l:List Int} {es:List ByteArray} {o:Option Ar} {q:Ar}
theorem Av.below (h:Av W a n c b m d l es o) (hb:Below W.heap.size W w):Av w a n c b m d l es o:=⟨h.v.below hb,h.c,h.z,h.i⟩
theorem Av.sz (h:Av W a n c b m d l es (some q)):szE l=0:=h.i.len.2.2.1
theorem Av.fst (h:Av W a n c b m d l es (some q)):q.1=l:=h.i.1
theorem Av.n3 (h:Av W a n c b m d l es (some q)):n≤3:=may_n3 h.sz h.v.s.1
theorem Av.mlen (h:Av W a n c b m d l es (some q)):m=q.2.length∧(m:Int)=pr l∧m≤4096:=by
 obtain⟨h1,h2,h3,h4,_⟩:=h.i.len
 have e:=h.v.t.1
 have h5:=(may_pr h3).2
 exact⟨by omega,by omega,by omega⟩
theorem Av.fits (h:Av W a n c b m d l es (some q)):Fits q.1 q.2:=by
 obtain⟨h1,_,h3,h4,_⟩:=h.i.len
 exact⟨by rw[h1];exact szE_may.1 h3,by rw[h1];exact h4⟩
def MEnd (r:Option Ar×Int) (W:World) (e:Ending) (W':World):Prop:=
 ∃a n c b m d,e=.returned (.tuple #[.agg #[.slice a n c,.slice b m d],.int .i64 r.2])∧Av W' a n c b m d (TS r.1).1 (TS r.1).2 r.1∧Below W.heap.size W W'
theorem mend_box {g n0 c0 m0 d0:Nat} {a0 b0:Option Addr} {r:Option Ar×Int} (h:Bx w g a0 n0 c0 b0 m0 d0) (hb:Below W.heap.size W w) (hg:W.heap.size≤g) (hv:Vl w a n b m (TS r.1).1 (TS r.1).2) (hc:Cp n c m d) (hr:Rok r.1):
 MEnd r W (.returned (.tuple #[.agg #[.slice a n c,.slice b m d],.int .i64 r.2])) ((w.setCell ⟨g,0,none⟩ (.slice a n c)).setCell ⟨g,1,none⟩ (.slice b m d)):=
 ⟨a,n,c,b,m,d,rfl,⟨⟨h.sl hv.s _ _,h.st hv.t _ _,hv.mm⟩,hc,hr.sz hv.t.1.symm,hr.ais⟩,below_made hb hg _ _⟩
theorem cp0:Cp 0 0 0 0:=⟨by omega,by unfold maxLen;omega,by omega,by unfold maxLen;omega⟩
theorem mend_no {g n0 c0 m0 d0:Nat} {a0 b0:Option Addr} {k:Int} (h:Bx w g a0 n0 c0 b0 m0 d0) (hb:Below W.heap.size W w) (hg:W.heap.size≤g):
 MEnd (none,k) W (.returned (.tuple #[.agg #[.slice none 0 0,.slice none 0 0],.int .i64 k])) ((w.setCell ⟨g,0,none⟩ (.slice none 0 0)).setCell ⟨g,1,none⟩ (.slice none 0 0)):=
 mend_box (r:=(none,k)) h hb hg (Vl.none_ w) cp0 trivial
theorem live1 (W:World) (a:Option Addr) (n c:Nat) (b:Option Addr) (m d:Nat):
 Lv (fun w=>Bx w (W.heap.size+1) none 0 0 none 0 0∧Bx w W.heap.size a n c b m d∧Below W.heap.size W w) ((W.alloc (.cells #[.slice a n c,.slice b m d] 25)).alloc (.cells #[.slice none 0 0,.slice none 0 0] 25)):=
 ⟨⟨Bx.two W _ _ _ _ _ _ _,(Bx.new W a n c b m d).alloc _,((Below.refl _ _).alloc (Nat.le_refl _) _).alloc (by simp) _⟩⟩
theorem live2 (W:World) (a:Option Addr) (n c:Nat) (b:Option Addr) (m d:Nat) (a2:Option Addr) (n2 c2:Nat) (b2:Option Addr) (m2 d2:Nat):
 Lv (fun w=>Bx w (W.heap.size+1+1) none 0 0 none 0 0∧Bx w (W.heap.size+1) a2 n2 c2 b2 m2 d2∧Bx w W.heap.size a n c b m d∧Below W.heap.size W w)
  (((W.alloc (.cells #[.slice a n c,.slice b m d] 25)).alloc (.cells #[.slice a2 n2 c2,.slice b2 m2 d2] 25)).alloc (.cells #[.slice none 0 0,.slice none 0 0] 25)):=by
 have h2:=Bx.two (W.alloc (.cells #[.slice a n c,.slice b m d] 25)) (.cells #[.slice a2 n2 c2,.slice b2 m2 d2] 25) none 0 0 none 0 0
 rw[World.size_alloc]at h2
 exact⟨⟨h2,(Bx.two W _ _ _ _ _ _ _).alloc _,((Bx.new W a n c b m d).alloc _).alloc _,(((Below.refl _ _).alloc (Nat.le_refl _) _).alloc (by simp) _).alloc (by simp;omega) _⟩⟩
end
end Go.Proofs.YtbijncndjlmmdaaGreatDoor
namespace Go.Proofs.YtbijncndjlmmdaaGreatDoor
set_option linter.unusedVariables false
set_option linter.unusedSimpArgs false
section
open Go.RowKit
end
section
open Go.RowKit
theorem run_mkO (n:Nat) (hn:n≤20) (w:World):
 (Instr.makeSlice 22 (.int .i64 (n:Int)) (.int .i64 (n:Int))).run Tryz.prog w=.ok (.slice (some ⟨w.heap.size,0,none⟩) n n) (w.alloc (.cells (madeCells #[.int .i64 0] n) 3)):=
 run_make_row' 22 3 _ 8 Tryz.underlying22 infoInt rfl _ _ n (by omega) (by omega) w
def PlOwn (b:Bool) (p:List Int) (W:World) (x:Ending) (W':World):Prop:=∃a' c',x=.returned (.tuple #[.slice a' p.length c',.bool b])∧W'.ownsRow W.heap.size 3 1 (.slice a' p.length c') p.length (valsI p)∧Below W.heap.size W W'
def PlOw (f:Nat) (a:Option Addr) (n c:Nat) (k:Int) (b:Bool) (p:List Int) (W:World):Prop:=Calls Tryz.prog f #[.slice a n c,.int .i64 k] W (PlOwn b p W)
theorem SRw.own {w:World} {B g n:Nat} {F:Nat→Int} (h:SRw w g n F) {l:List Int} (hl:l.length=n) (e:∀j,j<n→F j=l.getD j 0) (hg:B≤g) (hn:n≤maxLen):w.ownsRow B 3 1 (.slice (some ⟨g,0,none⟩) n n) n (valsI l):=by
 obtain⟨c,hc,hs,hv⟩:=h
 refine⟨by simp[valsI,hl],.inr ⟨g,n,c,rfl,hg,hc,Nat.le_refl _,hn,by rw[hs,Nat.mul_one],?_⟩⟩
 apply List.ext_getElem?
 intro j
 by_cases hj:j<n
 · rw[List.getElem?_take_of_lt (by omega),Array.getElem?_toList,hv j hj]
   show some (Value.int .i64 (F j))=_
   rw[e j hj]
   simp[valsI,List.getD_eq_getElem?_getD,List.getElem?_eq_getElem (show j<l.length by omega)]
 · rw[List.getElem?_eq_none (by rw[List.length_take];omega),List.getElem?_eq_none (by simp[valsI];omega)]
theorem Place_ow (a:Option Addr) (n c:Nat) (l:List Int) (k:Int) (W:World) (h:Sl W a n l) (hk63:k≤9223372036854775807):PlOw 158 a n c k (plB l k) (plO l k) W:=by
 have hsz:=Size_is a n c l W h
 unfold SizeIs at hsz
 obtain⟨b,hb⟩:∃b,b=plB l k:=⟨_,rfl⟩
 obtain⟨p,hp⟩:∃p,p=plO l k:=⟨_,rfl⟩
 rw[←hb,←hp]
 have HB:=Lib.hid hb
 have HP:=Lib.hid hp
 have HS:=Lib.hid h
 clear hb hp h
 unfold PlOw PlOwn
 by_cases he:szE l=0
 · rw[szV_pr he,he]at hsz
   have HM:=Lib.hid (szE_may.1 he)
   have hn3:n≤3:=by have:=HM.out.len;rw[HS.out.1]at this;exact this
   obtain⟨S,hS⟩:∃S,S=pr l:=⟨_,rfl⟩
   rw[←hS]at hsz
   have K:=Lib.hid hsz
   have HZ:=Lib.hid hS
   clear hsz hS
   by_cases c1:k<0
   · obtain⟨f1,f2⟩:=plB_no (l:=l) (k:=k) (.inr (.inl c1))
     obtain rfl:b=false:=HB.out.trans f1
     obtain rfl:p=[]:=HP.out.trans f2
     clear f1 f2 he
     go_enter Tryz.func158,Tryz.ntmps158
     go_wp2_with fail
     refine K.out.mono ?_
     rintro x w1 ⟨rfl,rfl⟩
     go_wp2_with fail
     go_ret2
     exact⟨none,0,rfl,World.ownsRow_nil _ _ _ _,Below.refl _ _⟩
   by_cases c2:S≤k
   · obtain⟨f1,f2⟩:=plB_no (l:=l) (k:=k) (.inr (.inr (by rw[←HZ.out];exact c2)))
     obtain rfl:b=false:=HB.out.trans f1
     obtain rfl:p=[]:=HP.out.trans f2
     clear f1 f2 he
     go_enter Tryz.func158,Tryz.ntmps158
     go_wp2_with fail
     refine K.out.mono ?_
     rintro x w1 ⟨rfl,rfl⟩
     go_wp2_with fail
     go_ret2
     exact⟨none,0,rfl,World.ownsRow_nil _ _ _ _,Below.refl _ _⟩
   · have hA:=HM.out.pos (by rw[←HZ.out];omega)
     obtain⟨f1,f2⟩:=plB_yes he (k:=k) (by omega) (by rw[←HZ.out];omega)
     obtain rfl:b=true:=HB.out.trans f1
     have HP2:=Lib.hid (HP.out.trans f2)
     have HA:=Lib.hid hA
     have hmk:=run_mkO n (by omega)
     clear f1 f2 he HP hA
     go_enter Tryz.func158,Tryz.ntmps158
     go_wp2_with fail
     refine K.out.mono ?_
     rintro x w1 ⟨rfl,rfl⟩
     go_wp2_with fail
     have hRw:=SRw.made W n
     have hbel:Below W.heap.size W (W.alloc (.cells (madeCells #[.int .i64 0] n) 3)):=(Below.refl _ _).alloc (Nat.le_refl _) _
     obtain⟨g,hg⟩:∃g,g=W.heap.size:=⟨_,rfl⟩
     rw[←hg]at hRw hbel ⊢
     have HG:=Lib.hid hg
     clear hg
     generalize W.alloc (.cells (madeCells #[.int .i64 0] n) 3)=w1 at hRw hbel ⊢
     have hw:wrap64 ((n:Int)-1)=(n:Int)-1:=w64 (by omega) (by omega)
     clear hmk
     go_loopw [1,9] (fun o i wr=>∃(q:Nat) (z:Int) (F:Nat→Int),i=.int .i64 ((q:Int)-1)∧o=.int .i64 z∧q≤n∧Hid (z=quo l k q)∧Hid (∀j,q≤j→j<n→F j=plc l k j)∧SRw wr g n F∧Below g W wr) (fun _ i _=>(intOf i+1).toNat)
     case atStart=>exact⟨n,k,_,by simp,rfl,Nat.le_refl _,Lib.hid (by rw[←HS.out.1,quo_last]),Lib.hid (fun j h1 h2=>by omega),hRw,hbel⟩
     case round=>
      obtain⟨q,z,F,rfl,rfl,hq,HQ,HF,hR,hbel2⟩:=hrel
      rcases q with _|q
      · have hpl:p.length=n:=by rw[HP2.out,plL_length,HS.out.1]
        have hsl:wr.ownsRow W.heap.size 3 1 (.slice (some ⟨g,0,none⟩) p.length n) p.length (valsI p):=by
         rw[←HG.out,hpl]
         exact hR.own hpl (fun j hj=>by rw[HF.out j (Nat.zero_le _) hj,HP2.out,plL_get (by rw[HS.out.1];exact hj)]) (Nat.le_refl _) (by unfold maxLen;omega)
        have HSL:=Lib.hid hsl
        have HBL:Hid (Below W.heap.size W wr):=by rw[←HG.out];exact hbel2
        clear hpl hsl hbel2 hR hRw hbel
        go_wp2_with fail
        go_ret2
        have hpl:p.length=n:=by rw[HP2.out,plL_length,HS.out.1]
        refine⟨some ⟨g,0,none⟩,n,?_,HSL.out,HBL.out⟩
        rw[hpl]
        rfl
      · rw[show(((q+1:Nat):Int)-1)=(q:Int)by omega]
        obtain⟨b,off,rfl,hc⟩:=HS.out.2 (by omega)
        have hck:=(hbel2.cell (p:=⟨b,off+q,none⟩) (by rw[HG.out];exact World.block_lt_of_cell? W _ (hc q (by omega)))).trans (hc q (by omega))
        obtain⟨x,hx⟩:∃x,x=l.getD q 0:=⟨_,rfl⟩
        rw[←hx]at hck
        have hxp:0<x:=by rw[hx];exact HA.out.pos q (by rw[HS.out.1];omega)
        have hbg:b≠g:=by have:=World.block_lt_of_cell? W _ (hc q (by omega));intro e;rw[←HG.out,←e]at this;exact absurd this (Nat.lt_irrefl _)
        have hcell:=hR.cell (i:=q) (by omega)
        have hfr:=hR.frozen q
        have hck2:∀u,(wr.setCell ⟨g,q,none⟩ u).cell? ⟨b,off+q,none⟩=some (.int .i64 x):=fun u=>by rw[World.cell?_setCell_other _ _ _ _ (by intro e;injection e with e;exact hbg e.symm),hck]
        have hx0:(x==0)=false:=beq_eq_false_iff_ne.2 (by omega)
        have HX:=Lib.hid hx
        clear hc hx
        have hz0:0≤z:=by rw[HQ.out];exact quo_nonneg HA.out (by omega) _
        have hzk:z≤k:=by rw[HQ.out];exact quo_le HA.out (by omega) _
        have em:z%x=plc l k q:=by rw[HQ.out,HX.out];rfl
        have ed:z/x=quo l k q:=by rw[HQ.out,HX.out];exact quo_step (by rw[HS.out.1];omega) (Int.le_of_lt (HA.out.drop _))
        have HE:=Lib.hid (And.intro em ed)
        clear em ed
        go_wp2_with fail
        go_roundw
        case rel=>
         refine⟨q,_,_,rfl,rfl,by omega,HE.out.2,Lib.hid fun j h1 h2=> ?_,hR.set q _,hbel2.setCell (by show g≤g;exact Nat.le_refl _) _⟩
         unfold supd
         by_cases hjq:j=q
         · rw[if_pos hjq,hjq,HE.out.1]
         · rw[if_neg hjq];exact HF.out j (by omega) h2
        case measure=>simp[intOf]
 · obtain⟨f1,f2⟩:=plB_no (l:=l) (k:=k) (.inl he)
   obtain rfl:b=false:=HB.out.trans f1
   obtain rfl:p=[]:=HP.out.trans f2
   rw[szV_zero he]at hsz
   generalize szE l=E at hsz he
   have K:=Lib.hid hsz
   clear f1 f2 hsz
   go_enter Tryz.func158,Tryz.ntmps158
   go_wp2_with fail
   refine K.out.mono ?_
   rintro x w1 ⟨rfl,rfl⟩
   go_wp2_with fail
   go_ret2
   exact⟨none,0,rfl,World.ownsRow_nil _ _ _ _,Below.refl _ _⟩
end
end Go.Proofs.YtbijncndjlmmdaaGreatDoor

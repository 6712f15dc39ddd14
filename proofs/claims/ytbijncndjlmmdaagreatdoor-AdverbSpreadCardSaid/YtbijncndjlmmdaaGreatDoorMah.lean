import Derived.Test.YtbijncndjlmmdaaGreatDoorMaf
import Derived.Test.YtbijncndjlmmdaaGreatDoorMag
set_option maxHeartbeats 1600000
set_option maxRecDepth 10000
namespace Go.Proofs.YtbijncndjlmmdaaGreatDoor
set_option linter.unusedVariables false
set_option linter.unusedSimpArgs false
open Go.RowKit
theorem S_toList (x:Int):(S x).data.toList=Lib.itoa x:=rfl
theorem lim_digs {n:Nat} (h:n<lim):(Lib.decDigits n).length≤100:=(digs_lim n).2 h
theorem S_size {x:Int} (h:x.natAbs<lim):(S x).size≤101:=by
 have h1:=lim_digs h
 show(Lib.itoa x).toArray.size≤101
 rw[List.size_toArray]
 by_cases hx:x<0
 · rw[itoa_neg hx,List.length_cons];omega
 · rw[itoa_pos (by omega)];omega
def ReadPost (x:Int) (w:World) (e:Ending) (w':World):Prop:=∃P l c,e=.returned (.tuple #[.agg #[.int .i64 x.sign,.slice P (List.length l) c],.bool true])∧(Sz w' P l∧Ok l∧Norm l∧val l=x.natAbs)∧Below w.heap.size w w'
def ReadNo (w:World) (e:Ending) (w':World):Prop:=e=.returned (.tuple #[.agg #[.int .i64 0,.slice none 0 0],.bool false])∧Below w.heap.size w w'
theorem may_yes {x:Int} (h:x.natAbs<lim) (w:World):Calls Tryz.prog 55 #[.string (S x)] w (MayPost true w):=by
 have h1:=may_any (S x) w (by have:=S_size h;unfold maxLen;omega)
 rwa [S_toList,(mayL_itoa x).2 h]at h1
theorem lim_lt:lim≤1000000000^12:=by
 unfold lim;decide
theorem vals_len {l:List Nat} {n:Nat} (nl:Norm l) (h:val l=n) (hn:n<lim):l.length≤12:=len_of_val nl h (Nat.lt_of_lt_of_le hn lim_lt)
theorem read_yes (x:Int) (w:World) (h:x.natAbs<lim):Calls Tryz.prog 271 #[.string (S x)] w (ReadPost x w):=by
 have hM:=fun w=>may_yes h w
 have hC:=fun w=>Tryz.strings_CutPrefix (S x) ⟨#[45]⟩ w
 rw[show(⟨#[45]⟩:ByteArray).data.toList=[45]from rfl,S_toList]at hC
 have hf:=figs_itoa x
 unfold figs at hf
 rw[hf]at hC
 obtain⟨f,hfe⟩:∃f:ByteArray,f=⟨(Lib.decDigits x.natAbs).toArray⟩:=⟨_,rfl⟩
 rw[←hfe]at hC
 have hfd:f.data.toList=Lib.decDigits x.natAbs:=by rw[hfe]
 have hfs:f.size=(Lib.decDigits x.natAbs).length:=by rw[←hfd];simp
 have h1:=lim_digs h
 have h2:=decDigits_len_pos x.natAbs
 have hr:=fun w=>readSize_any f w (by omega) (by omega) (by rw[hfd];exact decDigits_dig _)
 rw[hfd,dval_decDigits]at hr
 have HR:=Lib.hid hr
 have HM:=Lib.hid hM
 have HL:=Lib.hid h
 obtain⟨q,hq⟩:∃q,q=x.sign:=⟨_,rfl⟩
 by_cases hx:x<0
 · have hb:Lib.hasPrefix (Lib.itoa x) [45]=true:=by rw[itoa_neg hx];rfl
   rw[hb]at hC
   have HC:=Lib.hid hC
   have hmade:=fun w1 P l' c' hP ok nm (hvP:val l'=x.natAbs)=>made_to (-1) P l' c' w1 hP ok nm (.inr (.inl rfl)) (Nat.le_trans (vals_len nm hvP h) (by decide)) (z:=x) (sz:=q) (by rw[hvP];omega) hq.symm
   have HD:=Lib.hid hmade
   have HQ:=Lib.hid hq
   clear hr hM hC hf hfe hfd hfs hb hmade h hq
   go_enter Tryz.func271,Tryz.ntmps271
   go_wp2_with fail
   refine(HM.out _).mono ?_
   rintro e w1 ⟨rfl,rfl⟩
   go_wp2_with fail
   refine(HC.out _).mono ?_
   rintro e w1 ⟨rfl,rfl⟩
   go_wp2_with fail
   refine(HR.out _).mono ?_
   rintro e w2 ⟨_,rfl,⟨P,l,c,rfl,hP,okP,nmP,hvP⟩,hb2⟩
   go_wp2_with fail
   refine(HD.out _ P l c hP okP nmP hvP).mono ?_
   rintro e w3 ⟨P3,l3,c3,rfl,hP3,ok3,nm3,hv3,hb3⟩
   have hB:=((Nb.new w 0 none 0 0).below hb2 (by simp)).below hb3 (Nat.lt_of_lt_of_le (by simp) hb2.size)
   have k0:=hB.c0
   have k1:=hB.c1
   have f0:=hB.f 0
   have f1:=hB.f 1
   have hN:=hB.set q P3 l3.length c3
   have hS:=hP3.far hB.far (Only.two w.heap.size w3 (.int .i64 q) (.slice P3 l3.length c3))
   have hb:Below w.heap.size w w3:=(((Below.refl _ _).alloc (Nat.le_refl _) _).trans (hb2.mono (by simp))).trans (hb3.mono (Nat.le_trans (by simp) hb2.size))
   have hb':=hb.trans ((Only.two w.heap.size w3 (.int .i64 q) (.slice P3 l3.length c3)).to_below (Nat.le_refl _) hb.size)
   have r0:=hN.c0
   have r1:=hN.c1
   go_wp2_with fail
   exact bodyPost_ret (v:=.tuple #[.agg #[.int .i64 q,.slice P3 l3.length c3],.bool true]) (by simp[results,Tryz.results271,go_sem,r0,r1]) rfl ⟨P3,l3,c3,by rw[HQ.out],⟨hS,ok3,nm3,hv3⟩,hb'⟩
 · have hnb:Lib.hasPrefix (Lib.itoa x) [45]=false:=by
    cases hh:Lib.hasPrefix (Lib.itoa x) [45]with
    |false=>rfl
    |true=>
     exfalso
     have hl:=congrArg List.length hf
     rw[itoa_pos (by omega)]at hh hl
     unfold Lib.trimPrefix at hl
     rw[if_pos hh,List.length_drop]at hl
     simp at hl
     omega
   rw[hnb]at hC
   have HC:=Lib.hid hC
   have hSf:S x=f:=by rw[hfe];exact S_pos rfl (by omega)
   rw[←hSf]at HR
   have hmade:=fun w1 P l' c' hP ok nm (hvP:val l'=x.natAbs)=>made_to 1 P l' c' w1 hP ok nm (.inl rfl) (Nat.le_trans (vals_len nm hvP h) (by decide)) (z:=x) (sz:=q) (by rw[hvP];omega) hq.symm
   have HD:=Lib.hid hmade
   have HQ:=Lib.hid hq
   clear hr hM hC hf hfe hfd hfs hnb hmade h hq hSf
   go_enter Tryz.func271,Tryz.ntmps271
   go_wp2_with fail
   refine(HM.out _).mono ?_
   rintro e w1 ⟨rfl,rfl⟩
   go_wp2_with fail
   refine(HC.out _).mono ?_
   rintro e w1 ⟨rfl,rfl⟩
   go_wp2_with fail
   refine(HR.out _).mono ?_
   rintro e w2 ⟨_,rfl,⟨P,l,c,rfl,hP,okP,nmP,hvP⟩,hb2⟩
   go_wp2_with fail
   refine(HD.out _ P l c hP okP nmP hvP).mono ?_
   rintro e w3 ⟨P3,l3,c3,rfl,hP3,ok3,nm3,hv3,hb3⟩
   have hB:=((Nb.new w 0 none 0 0).below hb2 (by simp)).below hb3 (Nat.lt_of_lt_of_le (by simp) hb2.size)
   have k0:=hB.c0
   have k1:=hB.c1
   have f0:=hB.f 0
   have f1:=hB.f 1
   have hN:=hB.set q P3 l3.length c3
   have hS:=hP3.far hB.far (Only.two w.heap.size w3 (.int .i64 q) (.slice P3 l3.length c3))
   have hb:Below w.heap.size w w3:=(((Below.refl _ _).alloc (Nat.le_refl _) _).trans (hb2.mono (by simp))).trans (hb3.mono (Nat.le_trans (by simp) hb2.size))
   have hb':=hb.trans ((Only.two w.heap.size w3 (.int .i64 q) (.slice P3 l3.length c3)).to_below (Nat.le_refl _) hb.size)
   have r0:=hN.c0
   have r1:=hN.c1
   go_wp2_with fail
   exact bodyPost_ret (v:=.tuple #[.agg #[.int .i64 q,.slice P3 l3.length c3],.bool true]) (by simp[results,Tryz.results271,go_sem,r0,r1]) rfl ⟨P3,l3,c3,by rw[HQ.out],⟨hS,ok3,nm3,hv3⟩,hb'⟩
theorem read_no (s:ByteArray) (w:World) (hs:s.size≤maxLen) (h:mayL s.data.toList=false):Calls Tryz.prog 271 #[.string s] w (ReadNo w):=by
 have hM:=fun w=>may_any s w hs
 rw[h]at hM
 have HM:=Lib.hid hM
 clear hM h
 go_enter Tryz.func271,Tryz.ntmps271
 go_wp2_with fail
 refine(HM.out _).mono ?_
 rintro e w1 ⟨rfl,rfl⟩
 have hN:=Nb.new w 0 none 0 0
 have r0:=hN.c0
 have r1:=hN.c1
 go_wp2_with fail
 exact bodyPost_ret (v:=.tuple #[.agg #[.int .i64 0,.slice none 0 0],.bool false]) (by simp[results,Tryz.results271,go_sem]) rfl ⟨rfl,(Below.refl _ _).alloc (Nat.le_refl _) _⟩
end Go.Proofs.YtbijncndjlmmdaaGreatDoor
namespace Go.Proofs.YtbijncndjlmmdaaGreatDoor
set_option linter.unusedVariables false
set_option linter.unusedSimpArgs false
open Go.RowKit
theorem sign_yes (x:Int) (w:World) (h:x.natAbs<lim):Calls Tryz.prog 252 #[.string (S x)] w fun e w'=>e=.returned (.int .i64 x.sign)∧Below w.heap.size w w':=by
 have hR:=fun w=>read_yes x w h
 have HR:=Lib.hid hR
 obtain⟨q,hq⟩:∃q,q=x.sign:=⟨_,rfl⟩
 rw[←hq]
 have HQ:=Lib.hid hq
 clear hR h hq
 go_enter Tryz.func252,Tryz.ntmps252
 go_wp2_with fail
 refine(HR.out _).mono ?_
 rintro e w1 ⟨P,l,c,rfl,⟨hP,ok,nm,hv⟩,hb⟩
 rw[←HQ.out]
 go_wp2_with fail
 go_ret
 exact⟨rfl,hb.alloc hb.size _⟩
theorem sign_no (s:ByteArray) (w:World) (hs:s.size≤maxLen) (h:mayL s.data.toList=false):Calls Tryz.prog 252 #[.string s] w fun e w'=>e=.returned (.int .i64 0)∧Below w.heap.size w w':=by
 have hR:=fun w=>read_no s w hs h
 have HR:=Lib.hid hR
 clear hR h
 go_enter Tryz.func252,Tryz.ntmps252
 go_wp2_with fail
 refine(HR.out _).mono ?_
 rintro e w1 ⟨rfl,hb⟩
 go_wp2_with fail
 go_ret
 exact⟨rfl,hb.alloc hb.size _⟩
theorem neg_yes (x:Int) (w:World) (h:x.natAbs<lim) (htab:Tab w):Calls Tryz.prog 250 #[.string (S x)] w fun e w'=>e=.returned (.string (S (-x)))∧Below w.heap.size w w':=by
 have hR:=fun w=>read_yes x w h
 have hN:=fun P l c w1 hP ok nm hv=>negated_any x P l c w1 hP ok nm hv
 have hT:=fun P l c w1 hP ok nm hv ht htab=>text_any (-x) P l c w1 hP ok nm hv ht htab
 have HR:=Lib.hid hR
 have HL:=Lib.hid h
 obtain⟨q,hq⟩:∃q,q=x.sign:=⟨_,rfl⟩
 obtain⟨q',hq'⟩:∃q,q=(-x).sign:=⟨_,rfl⟩
 have HQ:=Lib.hid (And.intro hq hq')
 rw[←hq]at hN
 rw[←hq']at hT
 have HN:=Lib.hid hN
 have HT:=Lib.hid hT
 clear hR hN hT h hq hq'
 go_enter Tryz.func250,Tryz.ntmps250
 go_wp2_with fail
 refine(HR.out _).mono ?_
 rintro e w1 ⟨P,l,c,rfl,⟨hP,ok,nm,hv⟩,hb⟩
 rw[←HQ.out.1]
 have hb1:=hb.alloc hb.size (.cells #[.int .i64 q,.slice P l.length c] 225)
 have hP1:=hP.below ((Below.refl _ _).alloc (Nat.le_refl _) (.cells #[.int .i64 q,.slice P l.length c] 225))
 go_wp2_with fail
 refine(HN.out P l c _ hP1 ok nm hv).mono ?_
 rintro e w2 ⟨_,rfl,⟨P2,l2,c2,rfl,hP2,ok2,nm2,hv2⟩,hb2⟩
 rw[←HQ.out.2]
 have hb3:=hb1.trans (hb2.mono (Nat.le_trans hb.size (by simp)))
 go_wp2_with fail
 refine(HT.out P2 l2 c2 _ hP2 ok2 nm2 hv2 (Nat.le_trans (vals_len nm2 (n:=x.natAbs) (by rw[hv2];omega) HL.out) (by decide)) (htab.below hb3)).mono ?_
 rintro e w4 ⟨rfl,hb4⟩
 go_wp2_with fail
 go_ret
 exact⟨rfl,hb3.trans (hb4.mono hb3.size)⟩
theorem neg_no (s:ByteArray) (w:World) (hs:s.size≤maxLen) (h:mayL s.data.toList=false):Calls Tryz.prog 250 #[.string s] w fun e w'=>e=.returned (.string ⟨#[]⟩)∧Below w.heap.size w w':=by
 have hR:=fun w=>read_no s w hs h
 have HR:=Lib.hid hR
 clear hR h
 go_enter Tryz.func250,Tryz.ntmps250
 go_wp2_with fail
 refine(HR.out _).mono ?_
 rintro e w1 ⟨rfl,hb⟩
 go_wp2_with fail
 go_ret
 exact⟨rfl,hb.alloc hb.size _⟩
def DoesYes (F:FuncId) (x y:Int) (r:ByteArray) (ec:Int):Prop:=∀(A B:Option Addr) (l m:List Nat) (c d:Nat) (w:World),Sz w A l→Sz w B m→Ok l→Ok m→Norm l→Norm m→val l=x.natAbs→val m=y.natAbs→Tab w→
 Calls Tryz.prog F #[.agg #[.int .i64 x.sign,.slice A l.length c],.agg #[.int .i64 y.sign,.slice B m.length d]] w fun e w'=>e=.returned (.tuple #[.string r,.int .i64 ec])∧Below w.heap.size w w'
theorem together_yes (F:FuncId) (hE:∀args w,(callFunc F args).run Tryz.prog w=.ok (.enter F args) w) (x y:Int) (r:ByteArray) (ec:Int) (w:World) (hx:x.natAbs<lim) (hy:y.natAbs<lim) (htab:Tab w) (hF:DoesYes F x y r ec):
 Calls Tryz.prog 259 #[.string (S x),.string (S y),.func (Fn.func F) #[] #[]] w fun e w'=>e=.returned (.tuple #[.string r,.int .i64 ec])∧Below w.heap.size w w':=by
 have hR:=fun w=>read_yes x w hx
 have hR':=fun w=>read_yes y w hy
 have HR:=Lib.hid hR
 have HR':=Lib.hid hR'
 obtain⟨q,hq⟩:∃q,q=x.sign:=⟨_,rfl⟩
 obtain⟨q',hq'⟩:∃q,q=y.sign:=⟨_,rfl⟩
 have HQ:=Lib.hid (And.intro hq hq')
 have HF:=Lib.hid hF
 unfold DoesYes at HF
 rw[←hq,←hq']at HF
 clear hR hR' hF hq hq' hx hy
 go_enter Tryz.func259,Tryz.ntmps259
 go_wp2_with fail
 refine(HR.out _).mono ?_
 rintro e w1 ⟨P,l,c,rfl,⟨hP,ok,nm,hv⟩,hb⟩
 rw[←HQ.out.1]
 have hN:=Nb.new w1 q P l.length c
 have hb1:=hb.alloc hb.size (.cells #[.int .i64 q,.slice P l.length c] 225)
 have hP1:=hP.below ((Below.refl _ _).alloc (Nat.le_refl _) (.cells #[.int .i64 q,.slice P l.length c] 225))
 go_wp2_with fail
 refine(HR'.out _).mono ?_
 rintro e w2 ⟨P',l',c',rfl,⟨hP',ok',nm',hv'⟩,hb'⟩
 rw[←HQ.out.2]
 have hN2:=hN.below hb' hN.lt
 have hP2:=hP1.below hb'
 have hb2:=hb1.trans (hb'.mono hb1.size)
 have k0:=hN2.c0
 have k1:=hN2.c1
 have hb3:=hb2.alloc hb2.size (.cells #[.int .i64 q',.slice P' l'.length c'] 225)
 have hP3:=hP2.below ((Below.refl _ _).alloc (Nat.le_refl _) (.cells #[.int .i64 q',.slice P' l'.length c'] 225))
 have hP3':=hP'.below ((Below.refl _ _).alloc (Nat.le_refl _) (.cells #[.int .i64 q',.slice P' l'.length c'] 225))
 have hN3:=hN2.alloc (.cells #[.int .i64 q',.slice P' l'.length c'] 225)
 have m0:=hN3.c0
 have m1:=hN3.c1
 clear hN hN2 hb hb' hb1
 go_wp2_with fail
 refine(HF.out P P' l l' c c' _ hP3 hP3' ok ok' nm nm' hv hv' (htab.below hb3)).mono ?_
 rintro e w4 ⟨rfl,hb4⟩
 go_wp2_with fail
 go_ret2
 exact⟨rfl,hb3.trans (hb4.mono hb3.size)⟩
end Go.Proofs.YtbijncndjlmmdaaGreatDoor
namespace Go.Proofs.YtbijncndjlmmdaaGreatDoor
set_option linter.unusedVariables false
set_option linter.unusedSimpArgs false
open Go.RowKit
def ArgNo (w:World) (e:Ending) (w':World):Prop:=e=.returned (.tuple #[.string ⟨#[]⟩,.int .i64 1])∧Below w.heap.size w w'
def ReadAny (ok:Bool) (w:World) (e:Ending) (w':World):Prop:=∃q P n c,e=.returned (.tuple #[.agg #[.int .i64 q,.slice P n c],.bool ok])∧Below w.heap.size w w'
theorem read_any (s:ByteArray) (w:World) (hs:s.size≤maxLen):Calls Tryz.prog 271 #[.string s] w (ReadAny (mayL s.data.toList) w):=by
 cases h:mayL s.data.toList with
 |false=>
  refine(read_no s w hs h).mono ?_
  rintro e w' ⟨rfl,hb⟩
  exact⟨_,_,_,_,rfl,hb⟩
 |true=>
  obtain⟨x,hx,hl⟩:=mayL_is h
  have e1:s=S x:=ByteArray.ext (Array.toList_inj.1 hx)
  subst e1
  refine(read_yes x w hl).mono ?_
  rintro e w' ⟨P,l,c,rfl,_,hb⟩
  exact⟨_,_,_,_,rfl,hb⟩
theorem together_no (fv:Value) (s t:ByteArray) (w:World) (hs:s.size≤maxLen) (ht:t.size≤maxLen) (h:(mayL s.data.toList&&mayL t.data.toList)=false):
 Calls Tryz.prog 259 #[.string s,.string t,fv] w (ArgNo w):=by
 have hR:=fun w=>read_any s w hs
 have hR':=fun w=>read_any t w ht
 obtain⟨b1,hb1⟩:∃b,b=mayL s.data.toList:=⟨_,rfl⟩
 obtain⟨b2,hb2⟩:∃b,b=mayL t.data.toList:=⟨_,rfl⟩
 rw[←hb1]at hR h
 rw[←hb2]at hR' h
 have HR:=Lib.hid hR
 have HR':=Lib.hid hR'
 clear hR hR' hb1 hb2
 cases b1
 · clear h
   go_enter Tryz.func259,Tryz.ntmps259
   go_wp2_with fail
   refine(HR.out _).mono ?_
   rintro e w1 ⟨q,P,n,c,rfl,hb⟩
   have hb1:=hb.alloc hb.size (.cells #[.int .i64 q,.slice P n c] 225)
   go_wp2_with fail
   refine(HR'.out _).mono ?_
   rintro e w2 ⟨q',P',n',c',rfl,hb'⟩
   have hb2:=hb1.trans (hb'.mono hb1.size)
   go_wp2_with fail
   go_ret2
   exact⟨rfl,hb2.alloc hb2.size _⟩
 · have h2:b2=false:=by simpa using h
   subst h2
   clear h
   go_enter Tryz.func259,Tryz.ntmps259
   go_wp2_with fail
   refine(HR.out _).mono ?_
   rintro e w1 ⟨q,P,n,c,rfl,hb⟩
   have hb1:=hb.alloc hb.size (.cells #[.int .i64 q,.slice P n c] 225)
   go_wp2_with fail
   refine(HR'.out _).mono ?_
   rintro e w2 ⟨q',P',n',c',rfl,hb'⟩
   have hb2:=hb1.trans (hb'.mono hb1.size)
   go_wp2_with fail
   go_ret2
   exact⟨rfl,hb2.alloc hb2.size _⟩
end Go.Proofs.YtbijncndjlmmdaaGreatDoor
namespace Go.Proofs.YtbijncndjlmmdaaGreatDoor
set_option linter.unusedVariables false
set_option linter.unusedSimpArgs false
open Go.RowKit
def toldR (z:Int):ByteArray:=if z.natAbs<lim then S z else⟨#[]⟩
def toldE (z:Int):Int:=if z.natAbs<lim then 0 else 8
theorem told_tuple (z:Int):told z=.tuple #[.string (toldR z),.int .i64 (toldE z)]:=by
 unfold told toldR toldE;split<;>rfl
theorem told_to {z q:Int} (hq:q=z.sign) (A:Option Addr) (l:List Nat) (c:Nat) (w:World) (hA:Sz w A l) (ol:Ok l) (nl:Norm l) (hv:val l=z.natAbs) (hl:l.length≤1000) (htab:Tab w):
 Calls Tryz.prog 262 #[.agg #[.int .i64 q,.slice A l.length c]] w fun e w'=>e=.returned (.tuple #[.string (toldR z),.int .i64 (toldE z)])∧Below w.heap.size w w':=by
 subst hq
 have h:=told_any z A l c w hA ol nl hv hl htab
 rwa [told_tuple]at h
theorem lim12 {n:Nat} (h:n<lim):n<1000000000^12:=Nat.lt_of_lt_of_le h lim_lt
theorem add_lim {x y:Int} (hx:x.natAbs<lim) (hy:y.natAbs<lim):(x+y).natAbs<1000000000^24:=by
 have h1:=lim12 hx
 have h2:=lim12 hy
 have h3:1000000000^12+1000000000^12≤1000000000^24:=by decide
 have:(x+y).natAbs≤x.natAbs+y.natAbs:=by omega
 omega
theorem mul_lim {x y:Int} (hx:x.natAbs<lim) (hy:y.natAbs<lim):(x*y).natAbs<1000000000^24:=by
 rw[Int.natAbs_mul]
 rw[show(24:Nat)=12+12 from rfl,Nat.pow_add]
 exact Nat.mul_lt_mul_of_lt_of_le (lim12 hx) (Nat.le_of_lt (lim12 hy)) (Nat.pow_pos (by decide))
theorem add_does (x y:Int) (hx:x.natAbs<lim) (hy:y.natAbs<lim):DoesYes 260 x y (toldR (x+y)) (toldE (x+y)):=by
 intro A B l m c d w hA hB ol om nl nm hv hv' htab
 have hP:=plus_any x y A B l m c d
 obtain⟨q,hq⟩:∃q,q=x.sign:=⟨_,rfl⟩
 obtain⟨q',hq'⟩:∃q,q=y.sign:=⟨_,rfl⟩
 obtain⟨q3,hq3⟩:∃q,q=(x+y).sign:=⟨_,rfl⟩
 have l1:=vals_len nl hv hx
 have l2:=vals_len nm hv' hy
 have hl:=add_lim hx hy
 rw[←hq,←hq']at hP ⊢
 have HP:=Lib.hid hP
 have HQ:=Lib.hid (And.intro hq3 hl)
 clear hP hq hq' hq3 hx hy hl
 go_enter Tryz.func260,Tryz.ntmps260
 go_wp2_with fail
 have hW:Below w.heap.size w ((w.alloc (.cells #[.int .i64 q,.slice A l.length c] 225)).alloc (.cells #[.int .i64 q',.slice B m.length d] 225)):=((Below.refl _ _).alloc (Nat.le_refl _) _).alloc (by simp) _
 refine(HP.out _ (hA.below hW) (hB.below hW) ol om nl nm hv hv' (by omega) (by omega)).mono ?_
 rintro e w1 ⟨_,rfl,⟨P,l3,c3,rfl,h3,ok3,nm3,hv3⟩,hb3⟩
 rw[←HQ.out.1]
 have hb:=hW.trans (hb3.mono (by simp;omega))
 go_wp2_with fail
 refine(told_to HQ.out.1 P l3 c3 _ h3 ok3 nm3 hv3 (Nat.le_trans (len_of_val nm3 hv3 HQ.out.2) (by decide)) (htab.below hb)).mono ?_
 rintro e w2 ⟨rfl,hb4⟩
 go_wp2_with fail
 go_ret2
 exact⟨rfl,hb.trans (hb4.mono hb.size)⟩
theorem mul_does (x y:Int) (hx:x.natAbs<lim) (hy:y.natAbs<lim):DoesYes 265 x y (toldR (x*y)) (toldE (x*y)):=by
 intro A B l m c d w hA hB ol om nl nm hv hv' htab
 have hP:=times_any x y A B l m c d
 obtain⟨q,hq⟩:∃q,q=x.sign:=⟨_,rfl⟩
 obtain⟨q',hq'⟩:∃q,q=y.sign:=⟨_,rfl⟩
 obtain⟨q3,hq3⟩:∃q,q=(x*y).sign:=⟨_,rfl⟩
 have l1:=vals_len nl hv hx
 have l2:=vals_len nm hv' hy
 have hl:=mul_lim hx hy
 rw[←hq,←hq']at hP ⊢
 have HP:=Lib.hid hP
 have HQ:=Lib.hid (And.intro hq3 hl)
 clear hP hq hq' hq3 hx hy hl
 go_enter Tryz.func265,Tryz.ntmps265
 go_wp2_with fail
 have hW:Below w.heap.size w ((w.alloc (.cells #[.int .i64 q,.slice A l.length c] 225)).alloc (.cells #[.int .i64 q',.slice B m.length d] 225)):=((Below.refl _ _).alloc (Nat.le_refl _) _).alloc (by simp) _
 refine(HP.out _ (hA.below hW) (hB.below hW) ol om nl nm hv hv' (by omega) (by omega)).mono ?_
 rintro e w1 ⟨_,rfl,⟨P,l3,c3,rfl,h3,ok3,nm3,hv3⟩,hb3⟩
 rw[←HQ.out.1]
 have hb:=hW.trans (hb3.mono (by simp;omega))
 go_wp2_with fail
 refine(told_to HQ.out.1 P l3 c3 _ h3 ok3 nm3 hv3 (Nat.le_trans (len_of_val nm3 hv3 HQ.out.2) (by decide)) (htab.below hb)).mono ?_
 rintro e w2 ⟨rfl,hb4⟩
 go_wp2_with fail
 go_ret2
 exact⟨rfl,hb.trans (hb4.mono hb.size)⟩
theorem sub_does (x y:Int) (hx:x.natAbs<lim) (hy:y.natAbs<lim):DoesYes 263 x y (toldR (x-y)) (toldE (x-y)):=by
 intro A B l m c d w hA hB ol om nl nm hv hv' htab
 have hN:=negated_any y B m d
 obtain⟨q,hq⟩:∃q,q=x.sign:=⟨_,rfl⟩
 obtain⟨q',hq'⟩:∃q,q=y.sign:=⟨_,rfl⟩
 obtain⟨q2,hq2⟩:∃q,q=(-y).sign:=⟨_,rfl⟩
 obtain⟨q3,hq3⟩:∃q,q=(x-y).sign:=⟨_,rfl⟩
 have l1:=vals_len nl hv hx
 have l2:=vals_len nm hv' hy
 have hl:(x+ -y).natAbs<1000000000^24:=add_lim hx (by omega:(-y).natAbs<lim)
 rw[←Int.sub_eq_add_neg]at hl
 have hP:=fun B' m' d'=>plus_any x (-y) A B' l m' c d'
 rw[←Int.sub_eq_add_neg,←hq,←hq2]at hP
 rw[←hq']at hN
 rw[←hq,←hq']at ⊢
 have HP:=Lib.hid hP
 have HN:=Lib.hid hN
 have HQ:=Lib.hid (And.intro hq3 hl)
 have HQ2:=Lib.hid (And.intro hq2 hy)
 clear hP hN hq hq' hq3 hq2 hx hy hl
 go_enter Tryz.func263,Tryz.ntmps263
 go_wp2_with fail
 have hN1:=(Nb.new w q A l.length c).alloc (.cells #[.int .i64 q',.slice B m.length d] 225)
 have hM1:=Nb.new (w.alloc (.cells #[.int .i64 q,.slice A l.length c] 225)) q' B m.length d
 rw[show(w.alloc (.cells #[.int .i64 q,.slice A l.length c] 225)).heap.size=w.heap.size+1 by simp]at hM1
 have hW:Below w.heap.size w ((w.alloc (.cells #[.int .i64 q,.slice A l.length c] 225)).alloc (.cells #[.int .i64 q',.slice B m.length d] 225)):=((Below.refl _ _).alloc (Nat.le_refl _) _).alloc (by simp) _
 generalize ((w.alloc (.cells #[.int .i64 q,.slice A l.length c] 225)).alloc (.cells #[.int .i64 q',.slice B m.length d] 225))=W at hN1 hM1 hW ⊢
 have hAW:=hA.below hW
 have hBW:=hB.below hW
 have k0:=hN1.c0
 have k1:=hN1.c1
 have k2:=hM1.c0
 have k3:=hM1.c1
 have d0:W.drew.cell? ⟨w.heap.size,0,none⟩=some (.int .i64 q):=k0
 have d1:W.drew.cell? ⟨w.heap.size,1,none⟩=some (.slice A l.length c):=k1
 have d2:W.drew.cell? ⟨w.heap.size+1,0,none⟩=some (.int .i64 q'):=k2
 have d3:W.drew.cell? ⟨w.heap.size+1,1,none⟩=some (.slice B m.length d):=k3
 go_region_held3 (fun w'=>w'.cell? ⟨w.heap.size,0,none⟩=some (.int .i64 q)∧w'.cell? ⟨w.heap.size,1,none⟩=some (.slice A l.length c)∧w'.cell? ⟨w.heap.size+1,0,none⟩=some (.int .i64 q')∧w'.cell? ⟨w.heap.size+1,1,none⟩=some (.slice B m.length d))
  (first|with_reducible exact⟨d0,d1,d2,d3⟩|with_reducible exact⟨hN2.c0,hN2.c1,hM2.c0,hM2.c1⟩|with_reducible exact⟨hN3.c0,hN3.c1,hM3.c0,hM3.c1⟩|with_reducible exact⟨hN4.c0,hN4.c1,hM4.c0,hM4.c1⟩|fail)
  (first
    |(go_at_call 264;refine(HN.out _ (by exact hBW) om nm hv').mono ?_;rintro e w1 ⟨_,rfl,⟨P1,l1',c1,rfl,h1,ok1,nm1,hv1⟩,hb1⟩;rw[←HQ2.out.1];have hb1:=undrew hb1;have hN2:=hN1.below hb1 hN1.lt;have hM2:=hM1.below hb1 hM1.lt;have hb2:=hW.trans (hb1.mono hW.size);have hA2:=hAW.below hb1;have l3:=vals_len nm1 (n:=y.natAbs) (by rw[hv1];omega) HQ2.out.2)
    |(go_at_call 261;refine(HP.out _ _ _ _ (by exact hA2) h1 ol ok1 nl nm1 hv hv1 (by omega) (by omega)).mono ?_;rintro e w3 ⟨_,rfl,⟨P,l4,c3,rfl,h3,ok3,nm3,hv3⟩,hb3⟩;rw[←HQ.out.1];have hN3:=hN2.below hb3 hN2.lt;have hM3:=hM2.below hb3 hM2.lt;have hb:=hb2.trans (hb3.mono hb2.size))
    |(go_at_call 262;refine(told_to HQ.out.1 P l4 c3 _ h3 ok3 nm3 hv3 (Nat.le_trans (len_of_val nm3 hv3 HQ.out.2) (by decide)) (htab.below hb)).mono ?_;rintro e w5 ⟨rfl,hb4⟩;have hN4:=hN3.below hb4 hN3.lt;have hM4:=hM3.below hb4 hM3.lt;have hbf:=hb.trans (hb4.mono hb.size)))
 go_wp2_with fail
 go_ret2
 exact⟨rfl,hbf⟩
end Go.Proofs.YtbijncndjlmmdaaGreatDoor
namespace Go.Proofs.YtbijncndjlmmdaaGreatDoor
set_option linter.unusedVariables false
set_option linter.unusedSimpArgs false
open Go.RowKit
def OpPost (z:Int) (w:World) (e:Ending) (w':World):Prop:=e=.returned (.tuple #[.string (toldR z),.int .i64 (toldE z)])∧Below w.heap.size w w'
theorem Add_yes (x y:Int) (w:World) (hx:x.natAbs<lim) (hy:y.natAbs<lim) (htab:Tab w):Calls Tryz.prog 236 #[.string (S x),.string (S y)] w (OpPost (x+y) w):=by
 have hT:=together_yes 260 (enters_of Tryz.func260 (by kernel_rfl) rfl) x y _ _ w hx hy htab (add_does x y hx hy)
 have HT:=Lib.hid hT
 obtain⟨r,hr⟩:∃r,r=toldR (x+y):=⟨_,rfl⟩
 obtain⟨ec,hec⟩:∃r,r=toldE (x+y):=⟨_,rfl⟩
 rw[←hr,←hec]at HT
 have HE:=Lib.hid (And.intro hr hec)
 clear hT hr hec hx hy
 go_enter Tryz.func236,Tryz.ntmps236
 go_wp2_with fail
 refine HT.out.mono ?_
 rintro e w1 ⟨rfl,hb⟩
 go_wp2_with fail
 go_ret2
 exact⟨by rw[←HE.out.1,←HE.out.2];rfl,hb⟩
theorem Add_no (s t:ByteArray) (w:World) (hs:s.size≤maxLen) (ht:t.size≤maxLen) (h:(mayL s.data.toList&&mayL t.data.toList)=false):Calls Tryz.prog 236 #[.string s,.string t] w (ArgNo w):=by
 have hT:=fun fv=>together_no fv s t w hs ht h
 have HT:=Lib.hid hT
 clear hT h
 go_enter Tryz.func236,Tryz.ntmps236
 go_wp2_with fail
 refine(HT.out _).mono ?_
 rintro e w1 ⟨rfl,hb⟩
 go_wp2_with fail
 go_ret2
 exact⟨rfl,hb⟩
theorem Sub_yes (x y:Int) (w:World) (hx:x.natAbs<lim) (hy:y.natAbs<lim) (htab:Tab w):Calls Tryz.prog 237 #[.string (S x),.string (S y)] w (OpPost (x-y) w):=by
 have hT:=together_yes 263 (enters_of Tryz.func263 (by kernel_rfl) rfl) x y _ _ w hx hy htab (sub_does x y hx hy)
 have HT:=Lib.hid hT
 obtain⟨r,hr⟩:∃r,r=toldR (x-y):=⟨_,rfl⟩
 obtain⟨ec,hec⟩:∃r,r=toldE (x-y):=⟨_,rfl⟩
 rw[←hr,←hec]at HT
 have HE:=Lib.hid (And.intro hr hec)
 clear hT hr hec hx hy
 go_enter Tryz.func237,Tryz.ntmps237
 go_wp2_with fail
 refine HT.out.mono ?_
 rintro e w1 ⟨rfl,hb⟩
 go_wp2_with fail
 go_ret2
 exact⟨by rw[←HE.out.1,←HE.out.2];rfl,hb⟩
theorem Sub_no (s t:ByteArray) (w:World) (hs:s.size≤maxLen) (ht:t.size≤maxLen) (h:(mayL s.data.toList&&mayL t.data.toList)=false):Calls Tryz.prog 237 #[.string s,.string t] w (ArgNo w):=by
 have hT:=fun fv=>together_no fv s t w hs ht h
 have HT:=Lib.hid hT
 clear hT h
 go_enter Tryz.func237,Tryz.ntmps237
 go_wp2_with fail
 refine(HT.out _).mono ?_
 rintro e w1 ⟨rfl,hb⟩
 go_wp2_with fail
 go_ret2
 exact⟨rfl,hb⟩
theorem Mul_yes (x y:Int) (w:World) (hx:x.natAbs<lim) (hy:y.natAbs<lim) (htab:Tab w):Calls Tryz.prog 238 #[.string (S x),.string (S y)] w (OpPost (x*y) w):=by
 have hT:=together_yes 265 (enters_of Tryz.func265 (by kernel_rfl) rfl) x y _ _ w hx hy htab (mul_does x y hx hy)
 have HT:=Lib.hid hT
 obtain⟨r,hr⟩:∃r,r=toldR (x*y):=⟨_,rfl⟩
 obtain⟨ec,hec⟩:∃r,r=toldE (x*y):=⟨_,rfl⟩
 rw[←hr,←hec]at HT
 have HE:=Lib.hid (And.intro hr hec)
 clear hT hr hec hx hy
 go_enter Tryz.func238,Tryz.ntmps238
 go_wp2_with fail
 refine HT.out.mono ?_
 rintro e w1 ⟨rfl,hb⟩
 go_wp2_with fail
 go_ret2
 exact⟨by rw[←HE.out.1,←HE.out.2];rfl,hb⟩
theorem Mul_no (s t:ByteArray) (w:World) (hs:s.size≤maxLen) (ht:t.size≤maxLen) (h:(mayL s.data.toList&&mayL t.data.toList)=false):Calls Tryz.prog 238 #[.string s,.string t] w (ArgNo w):=by
 have hT:=fun fv=>together_no fv s t w hs ht h
 have HT:=Lib.hid hT
 clear hT h
 go_enter Tryz.func238,Tryz.ntmps238
 go_wp2_with fail
 refine(HT.out _).mono ?_
 rintro e w1 ⟨rfl,hb⟩
 go_wp2_with fail
 go_ret2
 exact⟨rfl,hb⟩
theorem Cmp_yes (x y:Int) (w:World) (hx:x.natAbs<lim) (hy:y.natAbs<lim):Calls Tryz.prog 245 #[.string (S x),.string (S y)] w (CmpPost (cmpI x y) w):=by
 have hR:=fun w=>read_yes x w hx
 have hR':=fun w=>read_yes y w hy
 have HR:=Lib.hid hR
 have HR':=Lib.hid hR'
 obtain⟨q,hq⟩:∃q,q=x.sign:=⟨_,rfl⟩
 obtain⟨q',hq'⟩:∃q,q=y.sign:=⟨_,rfl⟩
 obtain⟨z,hz⟩:∃z,z=cmpI x y:=⟨_,rfl⟩
 have HQ:=Lib.hid (And.intro hq hq')
 have hF:=fun P P' l l' c c' w1 hA hB ol om nl nm (hv:val l=x.natAbs) (hv':val l'=y.natAbs)=>against_any x y P P' l l' c c' w1 hA hB ol om nl nm hv hv' (Nat.le_trans (vals_len nl hv hx) (by decide)) (Nat.le_trans (vals_len nm hv' hy) (by decide))
 rw[←hq,←hq',←hz]at hF
 have HF:=Lib.hid hF
 have HZ:=Lib.hid hz
 clear hR hR' hF hq hq' hx hy hz
 go_enter Tryz.func245,Tryz.ntmps245
 go_wp2_with fail
 refine(HR.out _).mono ?_
 rintro e w1 ⟨P,l,c,rfl,⟨hP,ok,nm,hv⟩,hb⟩
 rw[←HQ.out.1]
 have hN:=Nb.new w1 q P l.length c
 have hb1:=hb.alloc hb.size (.cells #[.int .i64 q,.slice P l.length c] 225)
 have hP1:=hP.below ((Below.refl _ _).alloc (Nat.le_refl _) (.cells #[.int .i64 q,.slice P l.length c] 225))
 go_wp2_with fail
 refine(HR'.out _).mono ?_
 rintro e w2 ⟨P',l',c',rfl,⟨hP',ok',nm',hv'⟩,hb'⟩
 rw[←HQ.out.2]
 have hN2:=hN.below hb' hN.lt
 have hP2:=hP1.below hb'
 have hb2:=hb1.trans (hb'.mono hb1.size)
 have k0:=hN2.c0
 have k1:=hN2.c1
 have hb3:=hb2.alloc hb2.size (.cells #[.int .i64 q',.slice P' l'.length c'] 225)
 have hP3:=hP2.below ((Below.refl _ _).alloc (Nat.le_refl _) (.cells #[.int .i64 q',.slice P' l'.length c'] 225))
 have hP3':=hP'.below ((Below.refl _ _).alloc (Nat.le_refl _) (.cells #[.int .i64 q',.slice P' l'.length c'] 225))
 have hN3:=hN2.alloc (.cells #[.int .i64 q',.slice P' l'.length c'] 225)
 have m0:=hN3.c0
 have m1:=hN3.c1
 clear hN hN2 hb hb' hb1
 go_wp2_with fail
 refine(HF.out P P' l l' c c' _ hP3 hP3' ok ok' nm nm' hv hv').mono ?_
 rintro e w4 ⟨rfl,hb4⟩
 go_wp2_with fail
 go_ret
 exact⟨ret_int HZ.out,hb3.trans (hb4.mono hb3.size)⟩
theorem Cmp_no (s t:ByteArray) (w:World) (hs:s.size≤maxLen) (ht:t.size≤maxLen) (h:(mayL s.data.toList&&mayL t.data.toList)=false):Calls Tryz.prog 245 #[.string s,.string t] w (CmpPost 0 w):=by
 have hR:=fun w=>read_any s w hs
 have hR':=fun w=>read_any t w ht
 obtain⟨b1,hb1⟩:∃b,b=mayL s.data.toList:=⟨_,rfl⟩
 obtain⟨b2,hb2⟩:∃b,b=mayL t.data.toList:=⟨_,rfl⟩
 rw[←hb1]at hR h
 rw[←hb2]at hR' h
 have HR:=Lib.hid hR
 have HR':=Lib.hid hR'
 clear hR hR' hb1 hb2
 cases b1
 · clear h
   go_enter Tryz.func245,Tryz.ntmps245
   go_wp2_with fail
   refine(HR.out _).mono ?_
   rintro e w1 ⟨q,P,n,c,rfl,hb⟩
   have hb1:=hb.alloc hb.size (.cells #[.int .i64 q,.slice P n c] 225)
   go_wp2_with fail
   refine(HR'.out _).mono ?_
   rintro e w2 ⟨q',P',n',c',rfl,hb'⟩
   have hb2:=hb1.trans (hb'.mono hb1.size)
   go_wp2_with fail
   go_ret
   exact⟨rfl,hb2.alloc hb2.size _⟩
 · have h2:b2=false:=by simpa using h
   subst h2
   clear h
   go_enter Tryz.func245,Tryz.ntmps245
   go_wp2_with fail
   refine(HR.out _).mono ?_
   rintro e w1 ⟨q,P,n,c,rfl,hb⟩
   have hb1:=hb.alloc hb.size (.cells #[.int .i64 q,.slice P n c] 225)
   go_wp2_with fail
   refine(HR'.out _).mono ?_
   rintro e w2 ⟨q',P',n',c',rfl,hb'⟩
   have hb2:=hb1.trans (hb'.mono hb1.size)
   go_wp2_with fail
   go_ret
   exact⟨rfl,hb2.alloc hb2.size _⟩
theorem Of_any (n:Int) (h0: -9223372036854775808≤n) (h1:n≤9223372036854775807) (w:World) (htab:Tab w):Calls Tryz.prog 63 #[.int .i64 n] w fun e w'=>e=.returned (.string (S n))∧Below w.heap.size w w':=by
 have hF:=Tryz.strconv_FormatInt_10 n h0 h1 w htab.is
 have HF:=Lib.hid hF
 clear hF h0 h1
 go_enter Tryz.func63,Tryz.ntmps63
 go_wp2_with fail
 refine HF.out.mono ?_
 rintro e w1 ⟨rfl,k,os,rfl⟩
 go_wp2_with fail
 go_ret
 exact⟨rfl,Lib.below_grow _ w (Nat.le_refl _) k os⟩
end Go.Proofs.YtbijncndjlmmdaaGreatDoor
namespace Go.Proofs.YtbijncndjlmmdaaGreatDoor
set_option linter.unusedVariables false
set_option linter.unusedSimpArgs false
open Go.RowKit
def Is (s:ByteArray):Option Int→Prop
 |some x=>s=S x∧x.natAbs<lim
 |none=>mayL s.data.toList=false∧s.size≤maxLen
def T:Option Int→ByteArray
 |some x=>S x
 |none=>⟨#[]⟩
theorem Is.size {s:ByteArray} {o:Option Int} (h:Is s o):s.size≤maxLen:=by
 cases o with
 |none=>exact h.2
 |some x=>rw[h.1];exact Nat.le_trans (S_size h.2) (by decide)
theorem Is.may {s:ByteArray} {o:Option Int} (h:Is s o):mayL s.data.toList=o.isSome:=by
 cases o with
 |none=>exact h.1
 |some x=>rw[h.1];exact(mayL_itoa x).2 h.2
theorem S_inj {x y:Int} (h:S x=S y):x=y:=by
 apply itoa_inj
 have:=congrArg (fun s:ByteArray=>s.data.toList) h
 simpa[S]using this
def op (f:Int→Int→Int):Option Int→Option Int→Option Int
 |some x,some y=>if(f x y).natAbs<lim then some (f x y)else none
 |_,_=>none
def opE (f:Int→Int→Int):Option Int→Option Int→Int
 |some x,some y=>toldE (f x y)
 |_,_=>1
theorem op_told (f:Int→Int→Int) (x y:Int):T (op f (some x) (some y))=toldR (f x y):=by
 simp only[op,toldR];split<;>rfl
def OptPost (r:Option Int) (ec:Int) (w:World) (e:Ending) (w':World):Prop:=e=.returned (.tuple #[.string (T r),.int .i64 ec])∧Below w.heap.size w w'
theorem OpPost.opt {f:Int→Int→Int} {x y:Int} {w:World} {e:Ending} {w':World} (h:OpPost (f x y) w e w'):OptPost (op f (some x) (some y)) (opE f (some x) (some y)) w e w':=by
 unfold OptPost;rw[op_told];exact h
theorem ArgNo.opt {f:Int→Int→Int} {o p:Option Int} {w:World} {e:Ending} {w':World} (hn:(o.isSome&&p.isSome)=false) (h:ArgNo w e w'):OptPost (op f o p) (opE f o p) w e w':=by
 cases o<;>cases p<;>first|exact h|exact absurd hn (by simp)
theorem two_no {s t:ByteArray} {o p:Option Int} (hs:Is s o) (ht:Is t p) (hn:(o.isSome&&p.isSome)=false):(mayL s.data.toList&&mayL t.data.toList)=false:=by rw[hs.may,ht.may];exact hn
theorem Add_opt {s t:ByteArray} {o p:Option Int} (w:World) (hs:Is s o) (ht:Is t p) (htab:Tab w):Calls Tryz.prog 236 #[.string s,.string t] w (OptPost (op (fun x y=>x+y) o p) (opE (fun x y=>x+y) o p) w):=by
 cases hn:(o.isSome&&p.isSome)
 · exact(Add_no s t w hs.size ht.size (two_no hs ht hn)).mono fun e w' h=>ArgNo.opt hn h
 · cases o<;>cases p<;>simp at hn
   rw[hs.1,ht.1]
   exact(Add_yes _ _ w hs.2 ht.2 htab).mono fun e w' h=>OpPost.opt (f:=fun x y=>x+y) h
theorem Sub_opt {s t:ByteArray} {o p:Option Int} (w:World) (hs:Is s o) (ht:Is t p) (htab:Tab w):Calls Tryz.prog 237 #[.string s,.string t] w (OptPost (op (fun x y=>x-y) o p) (opE (fun x y=>x-y) o p) w):=by
 cases hn:(o.isSome&&p.isSome)
 · exact(Sub_no s t w hs.size ht.size (two_no hs ht hn)).mono fun e w' h=>ArgNo.opt hn h
 · cases o<;>cases p<;>simp at hn
   rw[hs.1,ht.1]
   exact(Sub_yes _ _ w hs.2 ht.2 htab).mono fun e w' h=>OpPost.opt (f:=fun x y=>x-y) h
theorem Mul_opt {s t:ByteArray} {o p:Option Int} (w:World) (hs:Is s o) (ht:Is t p) (htab:Tab w):Calls Tryz.prog 238 #[.string s,.string t] w (OptPost (op (fun x y=>x*y) o p) (opE (fun x y=>x*y) o p) w):=by
 cases hn:(o.isSome&&p.isSome)
 · exact(Mul_no s t w hs.size ht.size (two_no hs ht hn)).mono fun e w' h=>ArgNo.opt hn h
 · cases o<;>cases p<;>simp at hn
   rw[hs.1,ht.1]
   exact(Mul_yes _ _ w hs.2 ht.2 htab).mono fun e w' h=>OpPost.opt (f:=fun x y=>x*y) h
def cmpO:Option Int→Option Int→Int
 |some x,some y=>cmpI x y
 |_,_=>0
theorem Cmp_opt {s t:ByteArray} {o p:Option Int} (w:World) (hs:Is s o) (ht:Is t p):Calls Tryz.prog 245 #[.string s,.string t] w (CmpPost (cmpO o p) w):=by
 cases hn:(o.isSome&&p.isSome)
 · refine(Cmp_no s t w hs.size ht.size (two_no hs ht hn)).mono fun e w' h=> ?_
   cases o<;>cases p<;>first|exact h|exact absurd hn (by simp)
 · cases o<;>cases p<;>simp at hn
   rw[hs.1,ht.1]
   exact Cmp_yes _ _ w hs.2 ht.2
def sgnO:Option Int→Int
 |some x=>x.sign
 |none=>0
theorem Sign_opt {s:ByteArray} {o:Option Int} (w:World) (hs:Is s o):Calls Tryz.prog 252 #[.string s] w (CmpPost (sgnO o) w):=by
 cases o with
 |none=>exact sign_no s w hs.2 hs.1
 |some x=>rw[hs.1];exact sign_yes x w hs.2
theorem May_opt {s:ByteArray} {o:Option Int} (w:World) (hs:Is s o):Calls Tryz.prog 55 #[.string s] w (MayPost o.isSome w):=by
 rw[←hs.may];exact may_any s w hs.size
def negO:Option Int→Option Int
 |some x=>some (-x)
 |none=>none
theorem Neg_opt {s:ByteArray} {o:Option Int} (w:World) (hs:Is s o) (htab:Tab w):Calls Tryz.prog 250 #[.string s] w fun e w'=>e=.returned (.string (T (negO o)))∧Below w.heap.size w w':=by
 cases o with
 |none=>exact neg_no s w hs.2 hs.1
 |some x=>rw[hs.1];exact neg_yes x w hs.2 htab
end Go.Proofs.YtbijncndjlmmdaaGreatDoor

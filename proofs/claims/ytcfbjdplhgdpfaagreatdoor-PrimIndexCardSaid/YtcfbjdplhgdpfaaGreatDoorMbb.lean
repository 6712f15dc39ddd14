import Derived.Test.YtcfbjdplhgdpfaaGreatDoorMaw
import Derived.Test.YtcfbjdplhgdpfaaGreatDoorMas
import Derived.Deep.RegionLaw
import Derived.Deep.AppendLies
import Derived.Test.YtcfbjdplhgdpfaaGreatDoorMax
import Derived.Test.YtcfbjdplhgdpfaaGreatDoorMay
import Derived.Test.YtcfbjdplhgdpfaaGreatDoorMba
import Derived.WalkKit
import Derived.WalkSpells
import Derived.WalkLawsBesides
import Derived.Lib.Hide
import Derived.BigQuiet
import Derived.Deep.QuietTactic
import Derived.Deep.RegionWith
import Derived.Deep.OwnRows
set_option maxHeartbeats 1600000
set_option maxRecDepth 10000
namespace Go.Proofs.YtcfbjdplhgdpfaaGreatDoor
set_option linter.unusedVariables false
set_option linter.unusedSimpArgs false
open Go.RowKit
def OwI (W W':World) (a:Option Addr) (n c:Nat) (l:List Int):Prop:=W'.ownsRow W.heap.size 3 1 (.slice a n c) n (valsI l)
def OwS (W W':World) (a:Option Addr) (n c:Nat) (l:List ByteArray):Prop:=W'.ownsRow W.heap.size 9 1 (.slice a n c) n (valsS l)
def ClI (n:Nat) (l:List Int) (W:World) (x:Ending) (W':World):Prop:=∃a c,x=.returned (.slice a n c)∧OwI W W' a n c l∧Below W.heap.size W W'
def ClS (n:Nat) (l:List ByteArray) (W:World) (x:Ending) (W':World):Prop:=∃a c,x=.returned (.slice a n c)∧OwS W W' a n c l∧Below W.heap.size W W'
theorem Clone_o (a:Option Addr) (n c:Nat) (l:List Int) (W:World) (h:Sl W a n l) (hn:n≤1000000):Calls Tryz.prog 100 #[.slice a n c] W (ClI n l W):=by
 have hl:=h.1
 subst hl
 rcases a with _|a
 · have h0:l.length=0:=by
    rcases Nat.eq_zero_or_pos l.length with h0|h0
    · exact h0
    · obtain⟨b,off,e,_⟩:=h.2 h0;cases e
   obtain rfl:=List.length_eq_zero_iff.1 h0
   refine(Tryz.slices_Clone_int_nil 0 c W).mono ?_
   rintro x w ⟨rfl,rfl⟩
   exact⟨none,0,rfl,World.ownsRow_nil _ _ _ _,Below.refl _ _⟩
 · by_cases h0:l.length=0
   · obtain rfl:=List.length_eq_zero_iff.1 h0
     refine(Tryz.slices_Clone_int_zero a c W).mono ?_
     rintro x w ⟨v',rfl,hown,_,hb⟩
     obtain⟨a',c',rfl⟩:=own_form hown
     exact⟨a',c',rfl,hown,hb⟩
   · obtain⟨b,off,e,hc⟩:=h.2 (by omega)
     injection e with e
     subst e
     refine(Tryz.slices_Clone_int b off l.length c l W (Nat.le_refl _) (by omega) (fun j hj=>hc j hj)).mono ?_
     rintro x w ⟨v',rfl,hown,_,hb⟩
     rw[List.take_of_length_le (Nat.le_refl _)]at hown
     obtain⟨a',c',rfl⟩:=own_form hown
     exact⟨a',c',rfl,hown,hb⟩
theorem CloneS_o (a:Option Addr) (n c:Nat) (es:List ByteArray) (W:World) (h:St W a n es) (hn:n≤1000000):Calls Tryz.prog 138 #[.slice a n c] W (ClS n es W):=by
 have hl:=h.1
 subst hl
 rcases a with _|a
 · have h0:es.length=0:=by
    rcases Nat.eq_zero_or_pos es.length with h0|h0
    · exact h0
    · obtain⟨b,off,e,_⟩:=h.2 h0;cases e
   obtain rfl:=List.length_eq_zero_iff.1 h0
   refine(Tryz.slices_Clone_string_nil 0 c W).mono ?_
   rintro x w ⟨rfl,rfl⟩
   exact⟨none,0,rfl,World.ownsRow_nil _ _ _ _,Below.refl _ _⟩
 · by_cases h0:es.length=0
   · obtain rfl:=List.length_eq_zero_iff.1 h0
     refine(Tryz.slices_Clone_string_zero a c W).mono ?_
     rintro x w ⟨v',rfl,hown,_,hb⟩
     obtain⟨a',c',rfl⟩:=own_form hown
     exact⟨a',c',rfl,hown,hb⟩
   · obtain⟨b,off,e,hc⟩:=h.2 (by omega)
     injection e with e
     subst e
     refine(Tryz.slices_Clone_string b off es.length c es W (Nat.le_refl _) (by omega) (fun j hj=>hc j hj)).mono ?_
     rintro x w ⟨v',rfl,hown,_,hb⟩
     rw[List.take_of_length_le (Nat.le_refl _)]at hown
     obtain⟨a',c',rfl⟩:=own_form hown
     exact⟨a',c',rfl,hown,hb⟩
theorem OwI.sl {W w:World} {a:Option Addr} {n c:Nat} {l:List Int} (h:OwI W w a n c l):Sl w a n l:=own_sl h
theorem OwS.st {W w:World} {a:Option Addr} {n c:Nat} {l:List ByteArray} (h:OwS W w a n c l):St w a n l:=own_st h
theorem OwI.caps {W w:World} {a:Option Addr} {n c:Nat} {l:List Int} (h:OwI W w a n c l):n≤c∧c≤maxLen:=own_caps h
theorem OwS.caps {W w:World} {a:Option Addr} {n c:Nat} {l:List ByteArray} (h:OwS W w a n c l):n≤c∧c≤maxLen:=own_caps h
structure Av (W:World) (a:Option Addr) (n c:Nat) (b:Option Addr) (m d:Nat) (l:List Int) (es:List ByteArray) (o:Option Ar):Prop where
 v:Vl W a n b m l es
 c:Cp n c m d
 z:∀j,j<m→(es.getD j ByteArray.empty).size≤maxLen
 i:AIs l es o
def Rok:Option Ar→Prop
 |none=>True
 |some q=>szE q.1=0∧(q.2.length:Int)=pr q.1∧∀x∈q.2,x.natAbs<lim
theorem Rok.ais:∀{o:Option Ar},Rok o→AIs (TS o).1 (TS o).2 o
 |none,_=>ais_none
 |some _,h=>ais_of h.1 h.2.1 h.2.2
theorem AIs.rok {l:List Int} {es:List ByteArray}:∀{o:Option Ar},AIs l es o→Rok o
 |none,_=>trivial
 |some _,h=>by
  obtain⟨h1,_,h3,h4,h5⟩:=h.len
  exact⟨by rw[h1];exact h3,by rw[h1];exact h4,h5⟩
theorem Rok.sz {o:Option Ar} (h:Rok o) {m:Nat} (hm:m=(TS o).2.length):∀j,j<m→((TS o).2.getD j ByteArray.empty).size≤maxLen:=by
 cases o with
 |none=>intro j hj;rw[hm]at hj;cases hj
 |some q=>exact ais_sz h.ais hm
section
variable {W w:World} {a b:Option Addr} {n c m d:Nat} {l:List Int} {es:List ByteArray} {o:Option Ar} {q:Ar}
theorem Av.below (h:Av W a n c b m d l es o) (hb:Below W.heap.size W w):Av w a n c b m d l es o:=⟨h.v.below hb,h.c,h.z,h.i⟩
theorem Av.sz (h:Av W a n c b m d l es (some q)):szE l=0:=h.i.len.2.2.1
theorem Av.fst (h:Av W a n c b m d l es (some q)):q.1=l:=h.i.1
theorem Av.n3 (h:Av W a n c b m d l es (some q)):n≤3:=may_n3 h.sz h.v.s.1
theorem Av.mlen (h:Av W a n c b m d l es (some q)):m=q.2.length∧(m:Int)=pr l∧m≤4096:=by
 obtain⟨h1,h2,h3,h4,_⟩:=h.i.len
 have e:=h.v.t.1
 have h5:=(may_pr h3).2
 exact⟨by omega,by omega,by omega⟩
theorem Av.fits (h:Av W a n c b m d l es (some q)):Fits q.1 q.2:=by
 obtain⟨h1,_,h3,h4,_⟩:=h.i.len
 exact⟨by rw[h1];exact szE_may.1 h3,by rw[h1];exact h4⟩
def MEnd (r:Option Ar×Int) (W:World) (e:Ending) (W':World):Prop:=
 ∃a n c b m d,e=.returned (.tuple #[.agg #[.slice a n c,.slice b m d],.int .i64 r.2])∧Av W' a n c b m d (TS r.1).1 (TS r.1).2 r.1∧Below W.heap.size W W'
theorem mend_box {g n0 c0 m0 d0:Nat} {a0 b0:Option Addr} {r:Option Ar×Int} (h:Bx w g a0 n0 c0 b0 m0 d0) (hb:Below W.heap.size W w) (hg:W.heap.size≤g) (hv:Vl w a n b m (TS r.1).1 (TS r.1).2) (hc:Cp n c m d) (hr:Rok r.1):
 MEnd r W (.returned (.tuple #[.agg #[.slice a n c,.slice b m d],.int .i64 r.2])) ((w.setCell ⟨g,0,none⟩ (.slice a n c)).setCell ⟨g,1,none⟩ (.slice b m d)):=
 ⟨a,n,c,b,m,d,rfl,⟨⟨h.sl hv.s _ _,h.st hv.t _ _,hv.mm⟩,hc,hr.sz hv.t.1.symm,hr.ais⟩,below_made hb hg _ _⟩
theorem cp0:Cp 0 0 0 0:=⟨by omega,by unfold maxLen;omega,by omega,by unfold maxLen;omega⟩
theorem mend_no {g n0 c0 m0 d0:Nat} {a0 b0:Option Addr} {k:Int} (h:Bx w g a0 n0 c0 b0 m0 d0) (hb:Below W.heap.size W w) (hg:W.heap.size≤g):
 MEnd (none,k) W (.returned (.tuple #[.agg #[.slice none 0 0,.slice none 0 0],.int .i64 k])) ((w.setCell ⟨g,0,none⟩ (.slice none 0 0)).setCell ⟨g,1,none⟩ (.slice none 0 0)):=
 mend_box (r:=(none,k)) h hb hg (Vl.none_ w) cp0 trivial
theorem live1 (W:World) (a:Option Addr) (n c:Nat) (b:Option Addr) (m d:Nat):
 Lv (fun w=>Bx w (W.heap.size+1) none 0 0 none 0 0∧Bx w W.heap.size a n c b m d∧Below W.heap.size W w) ((W.alloc (.cells #[.slice a n c,.slice b m d] 25)).alloc (.cells #[.slice none 0 0,.slice none 0 0] 25)):=
 ⟨⟨Bx.two W _ _ _ _ _ _ _,(Bx.new W a n c b m d).alloc _,((Below.refl _ _).alloc (Nat.le_refl _) _).alloc (by simp) _⟩⟩
theorem live2 (W:World) (a:Option Addr) (n c:Nat) (b:Option Addr) (m d:Nat) (a2:Option Addr) (n2 c2:Nat) (b2:Option Addr) (m2 d2:Nat):
 Lv (fun w=>Bx w (W.heap.size+1+1) none 0 0 none 0 0∧Bx w (W.heap.size+1) a2 n2 c2 b2 m2 d2∧Bx w W.heap.size a n c b m d∧Below W.heap.size W w)
  (((W.alloc (.cells #[.slice a n c,.slice b m d] 25)).alloc (.cells #[.slice a2 n2 c2,.slice b2 m2 d2] 25)).alloc (.cells #[.slice none 0 0,.slice none 0 0] 25)):=by
 have h2:=Bx.two (W.alloc (.cells #[.slice a n c,.slice b m d] 25)) (.cells #[.slice a2 n2 c2,.slice b2 m2 d2] 25) none 0 0 none 0 0
 rw[World.size_alloc]at h2
 exact⟨⟨h2,(Bx.two W _ _ _ _ _ _ _).alloc _,((Bx.new W a n c b m d).alloc _).alloc _,(((Below.refl _ _).alloc (Nat.le_refl _) _).alloc (by simp) _).alloc (by simp;omega) _⟩⟩
end
end Go.Proofs.YtcfbjdplhgdpfaaGreatDoor
namespace Go.Proofs.YtcfbjdplhgdpfaaGreatDoor
set_option linter.unusedVariables false
set_option linter.unusedSimpArgs false
section
open Go.RowKit
end
section
open Go.RowKit
theorem run_mkO (n:Nat) (hn:n≤20) (w:World):
 (Instr.makeSlice 22 (.int .i64 (n:Int)) (.int .i64 (n:Int))).run Tryz.prog w=.ok (.slice (some ⟨w.heap.size,0,none⟩) n n) (w.alloc (.cells (madeCells #[.int .i64 0] n) 3)):=
 run_make_row' 22 3 _ 8 Tryz.underlying22 infoInt rfl _ _ n (by omega) (by omega) w
def PlOwn (b:Bool) (p:List Int) (W:World) (x:Ending) (W':World):Prop:=∃a' c',x=.returned (.tuple #[.slice a' p.length c',.bool b])∧W'.ownsRow W.heap.size 3 1 (.slice a' p.length c') p.length (valsI p)∧Below W.heap.size W W'
def PlOw (f:Nat) (a:Option Addr) (n c:Nat) (k:Int) (b:Bool) (p:List Int) (W:World):Prop:=Calls Tryz.prog f #[.slice a n c,.int .i64 k] W (PlOwn b p W)
theorem SRw.own {w:World} {B g n:Nat} {F:Nat→Int} (h:SRw w g n F) {l:List Int} (hl:l.length=n) (e:∀j,j<n→F j=l.getD j 0) (hg:B≤g) (hn:n≤maxLen):w.ownsRow B 3 1 (.slice (some ⟨g,0,none⟩) n n) n (valsI l):=by
 obtain⟨c,hc,hs,hv⟩:=h
 refine⟨by simp[valsI,hl],.inr ⟨g,n,c,rfl,hg,hc,Nat.le_refl _,hn,by rw[hs,Nat.mul_one],?_⟩⟩
 apply List.ext_getElem?
 intro j
 by_cases hj:j<n
 · rw[List.getElem?_take_of_lt (by omega),Array.getElem?_toList,hv j hj]
   show some (Value.int .i64 (F j))=_
   rw[e j hj]
   simp[valsI,List.getD_eq_getElem?_getD,List.getElem?_eq_getElem (show j<l.length by omega)]
 · rw[List.getElem?_eq_none (by rw[List.length_take];omega),List.getElem?_eq_none (by simp[valsI];omega)]
theorem Place_ow (a:Option Addr) (n c:Nat) (l:List Int) (k:Int) (W:World) (h:Sl W a n l) (hk63:k≤9223372036854775807):PlOw 102 a n c k (plB l k) (plO l k) W:=by
 have hsz:=Size_is a n c l W h
 unfold SizeIs at hsz
 obtain⟨b,hb⟩:∃b,b=plB l k:=⟨_,rfl⟩
 obtain⟨p,hp⟩:∃p,p=plO l k:=⟨_,rfl⟩
 rw[←hb,←hp]
 have HB:=Lib.hid hb
 have HP:=Lib.hid hp
 have HS:=Lib.hid h
 clear hb hp h
 unfold PlOw PlOwn
 by_cases he:szE l=0
 · rw[szV_pr he,he]at hsz
   have HM:=Lib.hid (szE_may.1 he)
   have hn3:n≤3:=by have:=HM.out.len;rw[HS.out.1]at this;exact this
   obtain⟨S,hS⟩:∃S,S=pr l:=⟨_,rfl⟩
   rw[←hS]at hsz
   have K:=Lib.hid hsz
   have HZ:=Lib.hid hS
   clear hsz hS
   by_cases c1:k<0
   · obtain⟨f1,f2⟩:=plB_no (l:=l) (k:=k) (.inr (.inl c1))
     obtain rfl:b=false:=HB.out.trans f1
     obtain rfl:p=[]:=HP.out.trans f2
     clear f1 f2 he
     go_enter Tryz.func102,Tryz.ntmps102
     go_wp2_with fail
     refine K.out.mono ?_
     rintro x w1 ⟨rfl,rfl⟩
     go_wp2_with fail
     go_ret2
     exact⟨none,0,rfl,World.ownsRow_nil _ _ _ _,Below.refl _ _⟩
   by_cases c2:S≤k
   · obtain⟨f1,f2⟩:=plB_no (l:=l) (k:=k) (.inr (.inr (by rw[←HZ.out];exact c2)))
     obtain rfl:b=false:=HB.out.trans f1
     obtain rfl:p=[]:=HP.out.trans f2
     clear f1 f2 he
     go_enter Tryz.func102,Tryz.ntmps102
     go_wp2_with fail
     refine K.out.mono ?_
     rintro x w1 ⟨rfl,rfl⟩
     go_wp2_with fail
     go_ret2
     exact⟨none,0,rfl,World.ownsRow_nil _ _ _ _,Below.refl _ _⟩
   · have hA:=HM.out.pos (by rw[←HZ.out];omega)
     obtain⟨f1,f2⟩:=plB_yes he (k:=k) (by omega) (by rw[←HZ.out];omega)
     obtain rfl:b=true:=HB.out.trans f1
     have HP2:=Lib.hid (HP.out.trans f2)
     have HA:=Lib.hid hA
     have hmk:=run_mkO n (by omega)
     clear f1 f2 he HP hA
     go_enter Tryz.func102,Tryz.ntmps102
     go_wp2_with fail
     refine K.out.mono ?_
     rintro x w1 ⟨rfl,rfl⟩
     go_wp2_with fail
     have hRw:=SRw.made W n
     have hbel:Below W.heap.size W (W.alloc (.cells (madeCells #[.int .i64 0] n) 3)):=(Below.refl _ _).alloc (Nat.le_refl _) _
     obtain⟨g,hg⟩:∃g,g=W.heap.size:=⟨_,rfl⟩
     rw[←hg]at hRw hbel ⊢
     have HG:=Lib.hid hg
     clear hg
     generalize W.alloc (.cells (madeCells #[.int .i64 0] n) 3)=w1 at hRw hbel ⊢
     have hw:wrap64 ((n:Int)-1)=(n:Int)-1:=w64 (by omega) (by omega)
     clear hmk
     go_loopw [1,9] (fun o i wr=>∃(q:Nat) (z:Int) (F:Nat→Int),i=.int .i64 ((q:Int)-1)∧o=.int .i64 z∧q≤n∧Hid (z=quo l k q)∧Hid (∀j,q≤j→j<n→F j=plc l k j)∧SRw wr g n F∧Below g W wr) (fun _ i _=>(intOf i+1).toNat)
     case atStart=>exact⟨n,k,_,by simp,rfl,Nat.le_refl _,Lib.hid (by rw[←HS.out.1,quo_last]),Lib.hid (fun j h1 h2=>by omega),hRw,hbel⟩
     case round=>
      obtain⟨q,z,F,rfl,rfl,hq,HQ,HF,hR,hbel2⟩:=hrel
      rcases q with _|q
      · have hpl:p.length=n:=by rw[HP2.out,plL_length,HS.out.1]
        have hsl:wr.ownsRow W.heap.size 3 1 (.slice (some ⟨g,0,none⟩) p.length n) p.length (valsI p):=by
         rw[←HG.out,hpl]
         exact hR.own hpl (fun j hj=>by rw[HF.out j (Nat.zero_le _) hj,HP2.out,plL_get (by rw[HS.out.1];exact hj)]) (Nat.le_refl _) (by unfold maxLen;omega)
        have HSL:=Lib.hid hsl
        have HBL:Hid (Below W.heap.size W wr):=by rw[←HG.out];exact hbel2
        clear hpl hsl hbel2 hR hRw hbel
        go_wp2_with fail
        go_ret2
        have hpl:p.length=n:=by rw[HP2.out,plL_length,HS.out.1]
        refine⟨some ⟨g,0,none⟩,n,?_,HSL.out,HBL.out⟩
        rw[hpl]
        rfl
      · rw[show(((q+1:Nat):Int)-1)=(q:Int)by omega]
        obtain⟨b,off,rfl,hc⟩:=HS.out.2 (by omega)
        have hck:=(hbel2.cell (p:=⟨b,off+q,none⟩) (by rw[HG.out];exact World.block_lt_of_cell? W _ (hc q (by omega)))).trans (hc q (by omega))
        obtain⟨x,hx⟩:∃x,x=l.getD q 0:=⟨_,rfl⟩
        rw[←hx]at hck
        have hxp:0<x:=by rw[hx];exact HA.out.pos q (by rw[HS.out.1];omega)
        have hbg:b≠g:=by have:=World.block_lt_of_cell? W _ (hc q (by omega));intro e;rw[←HG.out,←e]at this;exact absurd this (Nat.lt_irrefl _)
        have hcell:=hR.cell (i:=q) (by omega)
        have hfr:=hR.frozen q
        have hck2:∀u,(wr.setCell ⟨g,q,none⟩ u).cell? ⟨b,off+q,none⟩=some (.int .i64 x):=fun u=>by rw[World.cell?_setCell_other _ _ _ _ (by intro e;injection e with e;exact hbg e.symm),hck]
        have hx0:(x==0)=false:=beq_eq_false_iff_ne.2 (by omega)
        have HX:=Lib.hid hx
        clear hc hx
        have hz0:0≤z:=by rw[HQ.out];exact quo_nonneg HA.out (by omega) _
        have hzk:z≤k:=by rw[HQ.out];exact quo_le HA.out (by omega) _
        have em:z%x=plc l k q:=by rw[HQ.out,HX.out];rfl
        have ed:z/x=quo l k q:=by rw[HQ.out,HX.out];exact quo_step (by rw[HS.out.1];omega) (Int.le_of_lt (HA.out.drop _))
        have HE:=Lib.hid (And.intro em ed)
        clear em ed
        go_wp2_with fail
        go_roundw
        case rel=>
         refine⟨q,_,_,rfl,rfl,by omega,HE.out.2,Lib.hid fun j h1 h2=> ?_,hR.set q _,hbel2.setCell (by show g≤g;exact Nat.le_refl _) _⟩
         unfold supd
         by_cases hjq:j=q
         · rw[if_pos hjq,hjq,HE.out.1]
         · rw[if_neg hjq];exact HF.out j (by omega) h2
        case measure=>simp[intOf]
 · obtain⟨f1,f2⟩:=plB_no (l:=l) (k:=k) (.inl he)
   obtain rfl:b=false:=HB.out.trans f1
   obtain rfl:p=[]:=HP.out.trans f2
   rw[szV_zero he]at hsz
   generalize szE l=E at hsz he
   have K:=Lib.hid hsz
   clear f1 f2 hsz
   go_enter Tryz.func102,Tryz.ntmps102
   go_wp2_with fail
   refine K.out.mono ?_
   rintro x w1 ⟨rfl,rfl⟩
   go_wp2_with fail
   go_ret2
   exact⟨none,0,rfl,World.ownsRow_nil _ _ _ _,Below.refl _ _⟩
end
end Go.Proofs.YtcfbjdplhgdpfaaGreatDoor
namespace Go.Proofs.YtcfbjdplhgdpfaaGreatDoor
set_option linter.unusedVariables false
set_option linter.unusedSimpArgs false
open Go.RowKit
def cutA (b:Option Addr) (f t:Nat):Option Addr:=if t=f then b else b.map (·.add f)
theorem run_cut {T e:TypeId} (ht:Tryz.prog.underlying T=some (.slice e)) (hs:∀w,(Go.sizeOf e).run Tryz.prog w=.ok 1 w) (a:Option Addr) (n c f t:Nat) (h1:f≤t) (h2:t≤c) (w:World):
 (Instr.slice T (.slice a n c) (some (.int .i64 (f:Int))) (some (.int .i64 (t:Int))) (some (.int .i64 (t:Int)))).run Tryz.prog w=.ok (.slice (cutA a f t) (t-f) (t-f)) w:=by
 simp[Instr.slice,Instr.sliceBounds,Instr.sliceBound,run_underlying ht,hs,asIntOf,h1,h2,cutA]
theorem sizeInt (w:World):(Go.sizeOf 3).run Tryz.prog w=.ok 1 w:=by
 obtain⟨i0,hi,_,hz1,_⟩:=info_parts infoInt1
 simp[Go.sizeOf,typeInfo,hi,hz1]
theorem sizeStr (w:World):(Go.sizeOf 9).run Tryz.prog w=.ok 1 w:=by
 obtain⟨i0,hi,_,hz1,_⟩:=info_parts infoStr
 simp[Go.sizeOf,typeInfo,hi,hz1]
def CutEnd (b:Option Addr) (f t:Nat) (W:World) (x:Ending) (W':World):Prop:=x=.returned (.slice (cutA b f t) (t-f) (t-f))∧W=W'
theorem CutS_is (b:Option Addr) (m d f t:Nat) (W:World) (h1:f≤t) (h2:t≤d):Calls Tryz.prog 99 #[.slice b m d,.int .i64 f,.int .i64 t] W (CutEnd b f t W):=by
 have hr:=run_cut Tryz.underlying23 sizeStr b m d f t h1 h2
 go_enter Tryz.func99,Tryz.ntmps99
 go_wp2_with fail
 go_ret
 exact⟨rfl,rfl⟩
theorem CutI_is (b:Option Addr) (m d f t:Nat) (W:World) (h1:f≤t) (h2:t≤d):Calls Tryz.prog 150 #[.slice b m d,.int .i64 f,.int .i64 t] W (CutEnd b f t W):=by
 have hr:=run_cut Tryz.underlying22 sizeInt b m d f t h1 h2
 go_enter Tryz.func150,Tryz.ntmps150
 go_wp2_with fail
 go_ret
 exact⟨rfl,rfl⟩
theorem St.cut {W:World} {b:Option Addr} {m f t:Nat} {es:List ByteArray} (h:St W b m es) (h1:f≤t) (h2:t≤m):St W (cutA b f t) (t-f) ((es.drop f).take (t-f)):=by
 refine⟨by rw[List.length_take,List.length_drop,h.1];omega,fun hp=> ?_⟩
 obtain⟨bb,off,rfl,hc⟩:=h.2 (by omega)
 refine⟨bb,off+f,?_,fun j hj=> ?_⟩
 · unfold cutA
   rw[if_neg (by omega)]
   show some ((⟨bb,off,none⟩:Addr).add f)=_
   rw[Lib.add_plain]
 · rw[Nat.add_assoc,hc (f+j) (by omega)]
   simp only[List.getD_eq_getElem?_getD,List.getElem?_take_of_lt hj,List.getElem?_drop]
theorem Sl.cut {W:World} {b:Option Addr} {m f t:Nat} {l:List Int} (h:Sl W b m l) (h1:f≤t) (h2:t≤m):Sl W (cutA b f t) (t-f) ((l.drop f).take (t-f)):=by
 refine⟨by rw[List.length_take,List.length_drop,h.1];omega,fun hp=> ?_⟩
 obtain⟨bb,off,rfl,hc⟩:=h.2 (by omega)
 refine⟨bb,off+f,?_,fun j hj=> ?_⟩
 · unfold cutA
   rw[if_neg (by omega)]
   show some ((⟨bb,off,none⟩:Addr).add f)=_
   rw[Lib.add_plain]
 · rw[Nat.add_assoc,hc (f+j) (by omega)]
   simp only[List.getD_eq_getElem?_getD,List.getElem?_take_of_lt hj,List.getElem?_drop]
theorem Sl.cut1 {W:World} {b:Option Addr} {m:Nat} {l:List Int} (h:Sl W b m l) (h1:1≤m):Sl W (cutA b 1 m) (m-1) l.tail:=by
 have:=h.cut h1 (Nat.le_refl m)
 rwa [List.drop_one,List.take_of_length_le (by rw[List.length_tail,h.1];exact Nat.le_refl _)]at this
def mN (l:List Int):Nat:=(itV l).toNat
def iS (l:List Int) (m:Nat):Nat:=if m=0 then 0 else kI l
theorem Fits.all {α:Type} {l:List Int} {es:List α} (h:Fits l es):es.length=mN l*kI l∧((mN l:Nat):Int)=itV l:=by
 by_cases hl:l=[]
 · subst hl
   have:=h.2
   refine⟨?_,rfl⟩
   show _=1*1
   simp[pr]at this
   omega
 · have e:itV l=l.getD 0 0:=if_neg fun h=>hl (List.length_eq_zero_iff.1 h)
   have e2:mN l=nI l:=by unfold mN nI;rw[e]
   rw[e2]
   exact⟨h.cut hl,by rw[e];exact nI_head hl h.1⟩
section
variable {W:World} {a b:Option Addr} {n c m d:Nat} {l:List Int} {es:List ByteArray} {o:Option Ar} {q:Ar}
theorem Av.items (h:Av W a n c b m d l es (some q)):m=mN l*kI l∧((mN l:Nat):Int)=itV l∧mN l≤1099511627776∧m=mN l*iS l m:=by
 have hf:=h.fits
 rw[h.fst]at hf
 obtain⟨h1,h2⟩:=hf.all
 have h3:=h.mlen.1
 have e:itV l≤1099511627776:=by
  unfold itV
  split
  · omega
  · exact hf.1.le 0 (by omega)
 refine⟨by omega,h2,by omega,?_⟩
 unfold iS
 split
 · omega
 · omega
theorem VMany_av (h:Av W a n c b m d l es (some q)):Calls Tryz.prog 96 #[.agg #[.slice a n c,.slice b m d]] W (IntEnd (mN l:Nat) W):=by
 rw[h.items.2.1]
 exact VMany_is W h.v (by have:=h.n3;omega) h.c.nc h.c.cm
theorem ISize_is (h:Av W a n c b m d l es (some q)):Calls Tryz.prog 98 #[.agg #[.slice a n c,.slice b m d]] W (IntEnd (iS l m:Nat) W):=by
 have hb0:Below W.heap.size W (W.alloc (.cells #[.slice a n c,.slice b m d] 25)):=(Below.refl _ _).alloc (Nat.le_refl _) _
 have hA:=Bx.new W a n c b m d
 by_cases h0:m=0
 · have e:iS l m=0:=if_pos h0
   rw[e]
   subst h0
   clear h e
   go_enter Tryz.func98,Tryz.ntmps98
   go_wp2_with fail
   go_ret
   exact⟨rfl,hb0⟩
 · have K:=Lib.hid (fun w (hb:Below W.heap.size W w)=>VMany_av (h.below hb))
   obtain⟨h1,u1,h3,u2⟩:=h.items
   clear u1 u2
   have e:iS l m=kI l:=if_neg h0
   rw[e]
   have hm:=h.mlen.2.2
   have x0:=hA.c0
   have x1:=hA.c1
   have lA:=hA.lt
   generalize mN l=N at*
   generalize kI l=k at*
   have hN:0<N:=Nat.pos_of_ne_zero fun e=>h0 (by rw[h1,e,Nat.zero_mul])
   have hk:k≤m:=by rw[h1];exact Nat.le_mul_of_pos_left k hN
   have hd:(m:Int).tdiv (N:Int)=(k:Int):=by
    rw[h1,Int.natCast_mul,Int.mul_comm,Int.mul_tdiv_cancel _ (by omega)]
   have hd2:(m:Int)/(N:Int)=(k:Int):=item_div hN h1
   have hw:IntKind.i64.wrap ((m:Int).tdiv (N:Int))=(k:Int):=by rw[hd];exact IntWalk.i64_in _ (by omega)
   have hw2:IntKind.i64.wrap ((m:Int)/(N:Int))=(k:Int):=by rw[hd2];exact IntWalk.i64_in _ (by omega)
   have hN0:((N:Int)==0)=false:=beq_eq_false_iff_ne.2 (by omega)
   have hNn:(N:Int)≠0:=by omega
   have hm0:(m:Int)≠0:=by omega
   have hwN:IntKind.i64.wrap (N:Int)=(N:Int):=IntWalk.i64_in _ (by omega)
   have hwm:IntKind.i64.wrap (m:Int)=(m:Int):=IntWalk.i64_in _ (by omega)
   have hwk:IntKind.i64.wrap (k:Int)=(k:Int):=IntWalk.i64_in _ (by omega)
   have hge:(0:Int)≤(m:Int):=by omega
   have HF:=Lib.hid (And.intro hw (And.intro hw2 (And.intro hN0 (And.intro hNn (And.intro hwN (And.intro hwm hwk))))))
   clear hwN hwm hwk
   clear h h1 e hd hd2 hA hw hw2 hN0 hNn hk hN h3 h0
   go_enter Tryz.func98,Tryz.ntmps98
   go_wp2_with fail
   generalize hw4:W.alloc (.cells #[.slice a n c,.slice b m d] 25)=w4 at*
   have hq:Below w4.heap.size w4 w4:=Below.refl _ _
   obtain⟨hw,hw2,hN0,hNn,hwN,hwm,hwk⟩:=HF.out
   have K4:=Lib.hid (fun z (hz:Below w4.heap.size w4 z)=>(K.out z (hb0.trans (hz.mono hb0.size))).mono fun e w' (h:_∧_)=>(⟨h.1,hz.trans (h.2.mono hz.size)⟩:e=.returned (.int .i64 (N:Int))∧Below w4.heap.size w4 w'))
   go_region_with (go_at_call 96;refine(K4.out _ (by first|exact hq|exact Below.drew hq)).mono ?_;rintro e wq ⟨rfl,hq2⟩;have y1:=(Below.cell (p:=⟨W.heap.size,1,none⟩) hq2 lA).trans x1)
   all_goals
    go_wp2_with fail
    go_ret
    exact⟨rfl,hb0.trans (hq2.mono hb0.size)⟩
end
def ItO (v:Int) (n:Nat) (l:List Int) (W:World) (x:Ending) (W':World):Prop:=∃a c,x=.returned (.tuple #[.int .i64 v,.slice a n c])∧OwI W W' a n c l∧Below W.heap.size W W'
theorem Items_o (a:Option Addr) (n c:Nat) (l:List Int) (W:World) (h:Sl W a n l) (hn:n≤20) (hc:n≤c) (hc2:c≤maxLen):
 Calls Tryz.prog 121 #[.slice a n c] W (ItO (itV l) (n-1) l.tail W):=by
 unfold maxLen at hc2
 by_cases h0:n=0
 · subst h0
   obtain rfl:=List.length_eq_zero_iff.1 h.1
   clear h
   rw[show itV []=1 from rfl,List.tail_nil]
   go_enter Tryz.func121,Tryz.ntmps121
   go_wp2_with fail
   go_ret2
   exact⟨none,0,rfl,World.ownsRow_nil _ _ _ _,Below.refl _ _⟩
 · obtain⟨b,off,rfl,hcell⟩:=h.2 (by omega)
   have HT:=Lib.hid (h.tail (by omega))
   have hv:itV l=l.getD 0 0:=if_neg (by rw[h.1];exact h0)
   rw[hv]
   have hc0:=hcell 0 (by omega)
   rw[Nat.add_zero]at hc0
   have hlt:b<W.heap.size:=World.block_lt_of_cell? W _ hc0
   generalize l.getD 0 0=v at hc0 ⊢
   clear hv hcell h
   have e1:(n:Int)≠0:=by omega
   have e2:(0:Int)<n:=by omega
   by_cases h1:c=1
   · subst h1
     obtain rfl:n=1:=by omega
     have KC:=Lib.hid (fun w a c=>Clone_o a (1-1) c l.tail w ⟨HT.out.1,fun h=>by omega⟩ (by omega))
     go_enter Tryz.func121,Tryz.ntmps121
     go_wp2_with fail
     go_region_with (go_at_call 100;refine(KC.out _ _ _).mono ?_;rintro e w2 ⟨a',c',rfl,hs,hb2⟩;have hc2:w2.cell? ⟨b,off,none⟩=some (.int .i64 v):=(hb2.cell (p:=⟨b,off,none⟩) (by exact hlt)).trans hc0)
     all_goals
      go_wp2_with fail
      go_ret2
      exact⟨_,_,rfl,hs,⟨hb2.os,hb2.tape,hb2.output,hb2.size,hb2.block⟩⟩
   · have KC:=Lib.hid (fun w c (hw:Below W.heap.size W w)=>Clone_o _ (n-1) c l.tail w (HT.out.below hw) (by omega))
     go_enter Tryz.func121,Tryz.ntmps121
     go_wp2_with fail
     go_region_with (go_at_call 100;refine(KC.out _ _ (by exact(Below.refl _ _).drew)).mono ?_;rintro e w2 ⟨a',c',rfl,hs,hb2⟩;have hc2:w2.cell? ⟨b,off,none⟩=some (.int .i64 v):=(hb2.cell (p:=⟨b,off,none⟩) (by exact hlt)).trans hc0)
     all_goals
      go_wp2_with fail
      go_ret2
      exact⟨_,_,rfl,hs,⟨hb2.os,hb2.tape,hb2.output,hb2.size,hb2.block⟩⟩
end Go.Proofs.YtcfbjdplhgdpfaaGreatDoor

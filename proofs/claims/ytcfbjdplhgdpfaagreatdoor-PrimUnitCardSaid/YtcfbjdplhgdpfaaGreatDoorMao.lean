import Derived.Test.YtcfbjdplhgdpfaaGreatDoorMan
import Derived.BigQuiet
import Derived.Test.YtcfbjdplhgdpfaaGreatDoorMak
set_option maxHeartbeats 3200000
set_option maxRecDepth 100000
namespace Go.Proofs.YtcfbjdplhgdpfaaGreatDoor
set_option linter.unusedVariables false
set_option linter.unusedSimpArgs false
open Go.RowKit
def Sg (W:World) (g:Nat) (a:ByteArray) (b:Bool) (c:ByteArray):Prop:=W.heap[g]?=some (.cells #[.string a,.bool b,.string c] 89 (0,0))
section
variable {W W':World} {g:Nat} {a c:ByteArray} {b:Bool}
theorem Sg.lt (h:Sg W g a b c):g<W.heap.size:=(Array.getElem?_eq_some_iff.1 h).1
theorem Sg.c0 (h:Sg W g a b c):W.cell? ⟨g,0,none⟩=some (.string a):=by rw[cell_of_row _ _ 0 _ _ _ h];rfl
theorem Sg.c1 (h:Sg W g a b c):W.cell? ⟨g,1,none⟩=some (.bool b):=by rw[cell_of_row _ _ 1 _ _ _ h];rfl
theorem Sg.c2 (h:Sg W g a b c):W.cell? ⟨g,2,none⟩=some (.string c):=by rw[cell_of_row _ _ 2 _ _ _ h];rfl
theorem Sg.fz (h:Sg W g a b c) (i:Nat):W.frozen? ⟨g,i,none⟩=false:=frozen_of_row _ _ i _ _ h
theorem Sg.alloc (h:Sg W g a b c) (o:Obj):Sg (W.alloc o) g a b c:=(Below.heap_alloc W o g h.lt).trans h
theorem Sg.new (W:World) (a:ByteArray) (b:Bool) (c:ByteArray):Sg (W.alloc (.cells #[.string a,.bool b,.string c] 89)) W.heap.size a b c:=heap_alloc_new W _
theorem Sg.set (h:Sg W g a b c) (a':ByteArray) (b':Bool) (c':ByteArray):Sg (((W.setCell ⟨g,0,none⟩ (.string a')).setCell ⟨g,1,none⟩ (.bool b')).setCell ⟨g,2,none⟩ (.string c')) g a' b' c':=by
 unfold Sg at*
 simp[World.setCell,Array.getElem?_modify,h]
end
theorem dix (W:World) (k:Nat) (hk:k<11):(Instr.index 119 (.agg drow) (.int .i64 k)).run Tryz.prog W=.ok (.agg #[.string (dS k),.bool (dW k),.string (dU k)]) W:=by
 obtain rfl|rfl|rfl|rfl|rfl|rfl|rfl|rfl|rfl|rfl|rfl:k=0∨k=1∨k=2∨k=3∨k=4∨k=5∨k=6∨k=7∨k=8∨k=9∨k=10:=by omega
 all_goals kernel_rfl
theorem dS_kd (k:Nat) (hk:k<11):kdL (dS k).data.toList=k:=by
 obtain rfl|rfl|rfl|rfl|rfl|rfl|rfl|rfl|rfl|rfl|rfl:k=0∨k=1∨k=2∨k=3∨k=4∨k=5∨k=6∨k=7∨k=8∨k=9∨k=10:=by omega
 all_goals decide
theorem kd_le (l:List UInt8):kdL l≤11:=by
 unfold kdL
 repeat' split
 all_goals omega
theorem dS_of {op:ByteArray} {k:Nat} (h:kdL op.data.toList=k) (hk:k<11):dS k=op:=by
 rcases kdL_inv h with⟨rfl,e⟩|⟨rfl,e⟩|⟨rfl,e⟩|⟨rfl,e⟩|⟨rfl,e⟩|⟨rfl,e⟩|⟨rfl,e⟩|⟨rfl,e⟩|⟨rfl,e⟩|⟨rfl,e⟩|⟨rfl,e⟩|⟨rfl,e,_⟩
 all_goals first|exact absurd hk (by decide)|(obtain⟨⟨d⟩⟩:=op;have e:d=_:=e;subst e;rfl)
def KnIs (op:ByteArray) (k:Nat):Prop:=∀w,SC w→Calls Tryz.prog 90 #[.string op] w fun e w'=>e=.returned (.agg #[.string (dS k),.bool (dW k),.string (dU k)])∧Below w.heap.size w w'
theorem known_any (op:ByteArray):KnIs op (kdL op.data.toList):=by
 intro W hw
 obtain⟨k0,hk0⟩:∃k0,kdL op.data.toList=k0:=⟨_,rfl⟩
 rw[hk0]
 have HK:=Lib.hid hk0
 obtain⟨tt,fr,hg⟩:=hw.dy
 have hR:=Sg.new W ⟨#[]⟩ false ⟨#[]⟩
 have hB:Below W.heap.size W (W.alloc (.cells #[.string ⟨#[]⟩,.bool false,.string ⟨#[]⟩] 89)):=(Below.refl _ _).alloc (Nat.le_refl _) _
 have hgl:=(Array.getElem?_eq_some_iff.1 hg).1
 have hg1:=(hB.block _ hgl).trans hg
 have HR:=Lib.hid hR
 have HB:=Lib.hid hB
 obtain⟨dr,hdr⟩:∃dr,drow=dr:=⟨_,rfl⟩
 have HI:Hid (∀(W:World) (k:Nat),k<11→(Instr.index 119 (.agg dr) (.int .i64 k)).run Tryz.prog W=.ok (.agg #[.string (dS k),.bool (dW k),.string (dU k)]) W):=Lib.hid (by rw[←hdr];exact dix)
 have hds:(Tryz.prog.info? 119).map (·.size)=some dr.size:=by rw[←hdr];kernel_rfl
 rw[hdr]at hg1
 have hz:=Tryz.zeroValue89
 clear hk0 hg hw hdr hR hB hgl
 go_enter Tryz.func90,Tryz.ntmps90
 go_wp2_with (refine wpList_load_row rfl 119 _ rfl 1 rfl tt dr fr _ hg1 Tryz.underlying119 rfl hds ?_)
 go_loopw [6] (fun iv wr=>∃k:Nat,iv=.int .i64 k∧k≤11∧Hid (∀j,j<k→dS j≠op)∧Sg wr W.heap.size ⟨#[]⟩ false ⟨#[]⟩∧Below W.heap.size W wr) (fun iv _=>11-(intOf iv).toNat)
 case atStart=>exact⟨0,rfl,by omega,Lib.hid (fun j hj=>absurd hj (by omega)),HR.out,HB.out⟩
 case round=>
  clear HR HB hg1
  obtain⟨k,rfl,hk,hno,hR,hB⟩:=hrel
  by_cases hlt:k<11
  · have hix:=fun W=>HI.out W k hlt
    have e2:(k:Int)<11:=by omega
    by_cases he:dS k=op
    · have hkk:k=k0:=by rw[←HK.out,←he];exact(dS_kd k hlt).symm
      have HKK:=Lib.hid hkk
      have hgS:(dS k).toList=op.toList:=by rw[he]
      obtain⟨vS,hvS⟩:∃v,dS k=v:=⟨_,rfl⟩
      obtain⟨vW,hvW⟩:∃v,dW k=v:=⟨_,rfl⟩
      obtain⟨vU,hvU⟩:∃v,dU k=v:=⟨_,rfl⟩
      rw[hvS,hvW,hvU]at hix
      rw[hvS]at hgS
      have HV:=Lib.hid (show dS k=vS∧dW k=vW∧dU k=vU from⟨hvS,hvW,hvU⟩)
      clear hvS hvW hvU he hkk hno
      have hX:=Sg.new wr vS vW vU
      have hRX:=hR.alloc (.cells #[.string vS,.bool vW,.string vU] 89)
      have hBX:=hB.alloc hB.size (.cells #[.string vS,.bool vW,.string vU] 89)
      have x0:=hX.c0
      have x1:=hX.c1
      have x2:=hX.c2
      have z0:=hRX.c0
      have z1:=hRX.c1
      have z2:=hRX.c2
      have f0:=hRX.fz 0
      have f1:=hRX.fz 1
      have f2:=hRX.fz 2
      have hRS:=hRX.set vS vW vU
      have HRS:=Lib.hid hRS
      have HBS:=Lib.hid (((hBX.setCell (p:=⟨W.heap.size,0,none⟩) (Nat.le_refl _) (.string vS)).setCell (p:=⟨W.heap.size,1,none⟩) (Nat.le_refl _) (.bool vW)).setCell (p:=⟨W.heap.size,2,none⟩) (Nat.le_refl _) (.string vU))
      clear hRS hBX hRX hX hR hB
      go_wp2_with fail
      obtain⟨g1,g2,g3⟩:=HV.out
      generalize World.setCell _ _ _=w9 at*
      refine bodyPost_ret (results_cell_row (by rfl) _ _ W.heap.size _ _ _ _ rfl HRS.out Tryz.underlying89 rfl (by kernel_rfl)) rfl ?_
      refine⟨?_,HBS.out⟩
      rw[←HKK.out,g1,g2,g3]
    · have hgS:((dS k).toList==op.toList)=false:=beq_eq_false_iff_ne.2 fun e=>he (toList_inj e)
      have hno':=Lib.hid (show∀j,j<k+1→dS j≠op from fun j hj=>by
       rcases Nat.lt_or_ge j k with h|h
       · exact hno.out j h
       · obtain rfl:j=k:=by omega
         exact he)
      obtain⟨vS,hvS⟩:∃v,dS k=v:=⟨_,rfl⟩
      obtain⟨vW,hvW⟩:∃v,dW k=v:=⟨_,rfl⟩
      obtain⟨vU,hvU⟩:∃v,dU k=v:=⟨_,rfl⟩
      rw[hvS,hvW,hvU]at hix
      rw[hvS]at hgS
      clear hvS hvW hvU he hno
      have hX:=Sg.new wr vS vW vU
      have hRX:=hR.alloc (.cells #[.string vS,.bool vW,.string vU] 89)
      have hBX:=hB.alloc hB.size (.cells #[.string vS,.bool vW,.string vU] 89)
      have x0:=hX.c0
      have x1:=hX.c1
      have x2:=hX.c2
      have HRX:=Lib.hid hRX
      have HBX:=Lib.hid hBX
      clear hX hRX hBX hR hB
      go_wp2_with fail
      go_roundw
      case rel=>exact⟨k+1,by go_num,by omega,hno',HRX.out,HBX.out⟩
      case measure=>simp[intOf];omega
  · obtain rfl:k=11:=by omega
    have h11:k0=11:=by
     have h1:=kd_le op.data.toList
     rw[HK.out]at h1
     rcases Nat.lt_or_ge k0 11 with h|h
     · exact absurd (dS_of HK.out h) (hno.out k0 h)
     · omega
    have H11:=Lib.hid h11
    have hRS:=hR.set ⟨#[]⟩ false ⟨#[]⟩
    have HRS:=Lib.hid hRS
    have HBS:=Lib.hid (((hB.setCell (p:=⟨W.heap.size,0,none⟩) (Nat.le_refl _) (.string ⟨#[]⟩)).setCell (p:=⟨W.heap.size,1,none⟩) (Nat.le_refl _) (.bool false)).setCell (p:=⟨W.heap.size,2,none⟩) (Nat.le_refl _) (.string ⟨#[]⟩))
    have z0:=hR.c0
    have z1:=hR.c1
    have z2:=hR.c2
    have f0:=hR.fz 0
    have f1:=hR.fz 1
    have f2:=hR.fz 2
    clear hRS hR hB h11 hno
    go_wp2_with fail
    refine bodyPost_ret (results_cell_row (by rfl) _ _ W.heap.size _ _ _ _ rfl HRS.out Tryz.underlying89 rfl (by kernel_rfl)) rfl ?_
    refine⟨?_,HBS.out⟩
    rw[H11.out]
    rfl
theorem unit_is (op:ByteArray) (k:Nat) (HK:KnIs op k) (u:ByteArray) (hu:dU k=u) (b:Bool) (hb:(b=true∧¬u.toList=[])∨(b=false∧u.toList=[])):UnIs op u b:=by
 intro w hw
 have KK:=Lib.hid HK
 obtain⟨vS,hvS⟩:∃v,dS k=v:=⟨_,rfl⟩
 obtain⟨vW,hvW⟩:∃v,dW k=v:=⟨_,rfl⟩
 have hf:∀W:World,(Instr.field 89 (.agg #[.string vS,.bool vW,.string u]) 2).run Tryz.prog W=.ok (.string u) W:=fun W=>by kernel_rfl
 unfold KnIs at KK
 rw[hvS,hvW,hu]at KK
 clear HK hvS hvW hu
 rcases hb with⟨rfl,hb⟩|⟨rfl,hb⟩
 · replace hb:u.toList.isEmpty=false:=by cases h:u.toList<;>simp_all
   go_enter Tryz.func40,Tryz.ntmps40
   go_wp2_with fail
   refine(KK.out _ hw).mono ?_
   rintro e w1 ⟨rfl,hb⟩
   go_wp2_with fail
   go_ret2
   exact⟨rfl,hb⟩
 · replace hb:u.toList.isEmpty=true:=by rw[hb];rfl
   go_enter Tryz.func40,Tryz.ntmps40
   go_wp2_with fail
   refine(KK.out _ hw).mono ?_
   rintro e w1 ⟨rfl,hb⟩
   go_wp2_with fail
   go_ret2
   exact⟨rfl,hb⟩
theorem un_ok:UnOk:=by
 intro op _
 obtain⟨k,hk⟩:∃k,kdL op.data.toList=k:=⟨_,rfl⟩
 have h:=unit_is op _ (known_any op)
 rw[hk]at h
 rcases kdL_inv hk with⟨rfl,e⟩|⟨rfl,e⟩|⟨rfl,e⟩|⟨rfl,e⟩|⟨rfl,e⟩|⟨rfl,e⟩|⟨rfl,e⟩|⟨rfl,e⟩|⟨rfl,e⟩|⟨rfl,e⟩|⟨rfl,e⟩|⟨rfl,h0,h1,h2,_⟩
 · rw[e];exact h ⟨#[48]⟩ rfl true (.inl ⟨rfl,by rw[str_tl];decide⟩)
 · rw[e];exact h ⟨#[]⟩ rfl false (.inr ⟨rfl,by rw[str_tl]⟩)
 · rw[e];exact h ⟨#[49]⟩ rfl true (.inl ⟨rfl,by rw[str_tl];decide⟩)
 · rw[e];exact h ⟨#[]⟩ rfl false (.inr ⟨rfl,by rw[str_tl]⟩)
 · rw[e];exact h ⟨#[]⟩ rfl false (.inr ⟨rfl,by rw[str_tl]⟩)
 · rw[e];exact h ⟨#[]⟩ rfl false (.inr ⟨rfl,by rw[str_tl]⟩)
 · rw[e];exact h ⟨#[]⟩ rfl false (.inr ⟨rfl,by rw[str_tl]⟩)
 · rw[e];exact h ⟨#[]⟩ rfl false (.inr ⟨rfl,by rw[str_tl]⟩)
 · rw[e];exact h ⟨#[]⟩ rfl false (.inr ⟨rfl,by rw[str_tl]⟩)
 · rw[e];exact h ⟨#[]⟩ rfl false (.inr ⟨rfl,by rw[str_tl]⟩)
 · rw[e];exact h ⟨#[]⟩ rfl false (.inr ⟨rfl,by rw[str_tl]⟩)
 · rw[if_neg h0,if_neg h2,decide_eq_false h0,decide_eq_false h2]
   exact h ⟨#[]⟩ rfl false (.inr ⟨rfl,by rw[str_tl]⟩)
def dC (k:Nat):ByteArray:=⟨(([43,45,42,37,33,38,124,60,62,61,126]:List UInt8).take k).toArray⟩
theorem dC_step {k:Nat} (hk:k<11):dC k++dS k=dC (k+1)∧(dC k).size=k∧(dS k).size=1:=by
 obtain rfl|rfl|rfl|rfl|rfl|rfl|rfl|rfl|rfl|rfl|rfl:k=0∨k=1∨k=2∨k=3∨k=4∨k=5∨k=6∨k=7∨k=8∨k=9∨k=10:=by omega
 all_goals exact⟨by decide,by decide,by decide⟩
theorem ds_ok:DsIs:=by
 intro W hw
 obtain⟨tt,fr,hg1⟩:=hw.dy
 obtain⟨dr,hdr⟩:∃dr,drow=dr:=⟨_,rfl⟩
 have HI:Hid (∀(W:World) (k:Nat),k<11→(Instr.index 119 (.agg dr) (.int .i64 k)).run Tryz.prog W=.ok (.agg #[.string (dS k),.bool (dW k),.string (dU k)]) W):=Lib.hid (by rw[←hdr];exact dix)
 have hds:(Tryz.prog.info? 119).map (·.size)=some dr.size:=by rw[←hdr];kernel_rfl
 rw[hdr]at hg1
 have hz:=Tryz.zeroValue89
 clear hw hdr
 go_enter Tryz.func78,Tryz.ntmps78
 go_wp2_with (refine wpList_load_row rfl 119 _ rfl 1 rfl tt dr fr _ hg1 Tryz.underlying119 rfl hds ?_)
 go_loopw [1,5] (fun sv iv wr=>∃k:Nat,iv=.int .i64 k∧k≤11∧sv=.string (dC k)∧Below W.heap.size W wr) (fun _ iv _=>11-(intOf iv).toNat)
 case atStart=>exact⟨0,rfl,by omega,rfl,Below.refl _ _⟩
 case round=>
  clear hg1
  obtain⟨k,rfl,hk,rfl,hB⟩:=hrel
  by_cases hlt:k<11
  · have hix:=fun W=>HI.out W k hlt
    have e2:(k:Int)<11:=by omega
    obtain⟨hc1,hc2,hc3⟩:=dC_step hlt
    obtain⟨vS,hvS⟩:∃v,dS k=v:=⟨_,rfl⟩
    obtain⟨vW,hvW⟩:∃v,dW k=v:=⟨_,rfl⟩
    obtain⟨vU,hvU⟩:∃v,dU k=v:=⟨_,rfl⟩
    obtain⟨vC,hvC⟩:∃v,dC k=v:=⟨_,rfl⟩
    rw[hvS,hvW,hvU]at hix
    rw[hvS,hvC]at hc1
    rw[hvC]at hc2
    rw[hvS]at hc3
    rw[hvC]
    have hs:vC.size+vS.size≤12:=by omega
    have hs1:vC.size≤12:=by omega
    have hs2:vS.size≤12:=by omega
    have HC:=Lib.hid hc1
    clear hvS hvW hvU hvC hc1 hc2 hc3
    have hX:=Sg.new wr vS vW vU
    have hBX:=hB.alloc hB.size (.cells #[.string vS,.bool vW,.string vU] 89)
    have x0:=hX.c0
    have x1:=hX.c1
    have x2:=hX.c2
    have HBX:=Lib.hid hBX
    clear hX hBX hB
    go_wp2_with fail
    go_roundw
    case rel=>exact⟨k+1,by go_num,by omega,by rw[HC.out],HBX.out⟩
    case measure=>simp[intOf];omega
  · obtain rfl:k=11:=by omega
    go_wp2_with fail
    go_ret
    exact⟨rfl,hB⟩
def mS (k:Nat):ByteArray:=[(⟨#[45]⟩:ByteArray),⟨#[126]⟩,⟨#[42]⟩].getD k ⟨#[]⟩
def mC (k:Nat):ByteArray:=⟨(([45,126,42]:List UInt8).take k).toArray⟩
theorem mC_step {k:Nat} (hk:k<3):mC k++mS k=mC (k+1)∧(mC k).size=k∧(mS k).size=1:=by
 obtain rfl|rfl|rfl:k=0∨k=1∨k=2:=by omega
 all_goals exact⟨by decide,by decide,by decide⟩
theorem mix (W:World) (k:Nat) (hk:k<3):(Instr.index 104 (.agg mrow) (.int .i64 k)).run Tryz.prog W=.ok (.string (mS k)) W:=by
 obtain rfl|rfl|rfl:k=0∨k=1∨k=2:=by omega
 all_goals kernel_rfl
theorem ms_ok:MsIs:=by
 intro W hw
 obtain⟨tt,fr,hg1⟩:=hw.mo
 obtain⟨dr,hdr⟩:∃dr,mrow=dr:=⟨_,rfl⟩
 have HI:Hid (∀(W:World) (k:Nat),k<3→(Instr.index 104 (.agg dr) (.int .i64 k)).run Tryz.prog W=.ok (.string (mS k)) W):=Lib.hid (by rw[←hdr];exact mix)
 have hds:(Tryz.prog.info? 104).map (·.size)=some dr.size:=by rw[←hdr];kernel_rfl
 rw[hdr]at hg1
 clear hw hdr
 go_enter Tryz.func56,Tryz.ntmps56
 go_wp2_with (refine wpList_load_row rfl 104 _ rfl 0 rfl tt dr fr _ hg1 Tryz.underlying104 rfl hds ?_)
 go_loopw [1,5] (fun sv iv wr=>∃k:Nat,iv=.int .i64 k∧k≤3∧sv=.string (mC k)∧wr=W) (fun _ iv _=>3-(intOf iv).toNat)
 case atStart=>exact⟨0,rfl,by omega,rfl,rfl⟩
 case round=>
  obtain⟨k,rfl,hk,rfl,rfl⟩:=hrel
  by_cases hlt:k<3
  · have hix:=fun W=>HI.out W k hlt
    have e2:(k:Int)<3:=by omega
    obtain⟨hc1,hc2,hc3⟩:=mC_step hlt
    obtain⟨vS,hvS⟩:∃v,mS k=v:=⟨_,rfl⟩
    obtain⟨vC,hvC⟩:∃v,mC k=v:=⟨_,rfl⟩
    rw[hvS]at hix
    rw[hvS,hvC]at hc1
    rw[hvC]at hc2
    rw[hvS]at hc3
    rw[hvC]
    have hs:vC.size+vS.size≤12:=by omega
    have hs1:vC.size≤12:=by omega
    have hs2:vS.size≤12:=by omega
    have HC:=Lib.hid hc1
    clear hvS hvC hc1 hc2 hc3
    go_wp2_with fail
    go_roundw
    case rel=>exact⟨k+1,by go_num,by omega,by rw[HC.out],by first|rfl|trivial⟩
    case measure=>simp[intOf];omega
  · obtain rfl:k=3:=by omega
    go_wp2_with fail
    go_ret
    exact⟨rfl,Below.refl _ _⟩
end Go.Proofs.YtcfbjdplhgdpfaaGreatDoor
namespace Go.Proofs.YtcfbjdplhgdpfaaGreatDoor
set_option linter.unusedVariables false
set_option linter.unusedSimpArgs false
open Go.RowKit Go.Maps Go.MapKept Go.WideMaps
def LOne:List (ByteArray×Value):=[(⟨#[33]⟩,.func (.func 46) #[] #[]),(⟨#[35]⟩,.func (.func 47) #[] #[]),(⟨#[61]⟩,.func (.func 48) #[] #[]),(⟨#[44]⟩,.func (.func 49) #[] #[]),(⟨#[124]⟩,.func (.func 50) #[] #[]),(⟨#[43]⟩,.func (.func 51) #[] #[]),(⟨#[60]⟩,.func (.func 52) #[] #[]),(⟨#[62]⟩,.func (.func 53) #[] #[]),(⟨#[38]⟩,.func (.func 54) #[] #[]),(⟨#[63]⟩,.func (.func 55) #[] #[])]
def GOne (s:ByteArray):List (ByteArray×Value):=[45,126,42].map fun c=>(⟨#[c]⟩,.func (.func 57) #[.string s] #[])
def MOne (s:ByteArray):List (ByteArray×Value):=LOne++GOne s
def MnOne (s:ByteArray) (W:World) (e:Ending) (W':World):Prop:=∃b,e=.returned (.map (some b))∧Mq W' b (sq (MOne s))∧Below W.heap.size W W'
theorem stepOne (s:ByteArray) {k:Nat} (hk:k<3):∃c:UInt8,(⟨#[45,126,42]⟩:ByteArray)[k]'hk=c∧c.toNat<128∧Utf8.encode (c.toNat:Int)=⟨#[c]⟩∧shK (((⟨#[c]⟩:ByteArray),.bool true)::(LOne++(GOne s).take k))=true∧finK (LOne++(GOne s).take k) ⟨#[c]⟩=[]∧
 (LOne++(GOne s).take k)++[((⟨#[c]⟩:ByteArray),.func (.func 57) #[.string s] #[])]=LOne++(GOne s).take (k+1):=by
 match k,hk with
 | 0,_=>exact⟨45,rfl,by decide,by kernel_rfl,rfl,rfl,rfl⟩
 | 1,_=>exact⟨126,rfl,by decide,by kernel_rfl,rfl,rfl,rfl⟩
 | 2,_=>exact⟨42,rfl,by decide,by kernel_rfl,rfl,rfl,rfl⟩
theorem ofOne_is (s:ByteArray) {W:World} (hW:SM W):Calls Tryz.prog 19 #[.string s] W (MnOne s W):=by
 have hmm:=@run_makeMap Tryz.prog
 have hmf:∀(fn:Fn) (first cap:Array Value) (w:World),(Instr.makeFunc fn first cap).run Tryz.prog w=.ok (.func fn first cap) w:=fun _ _ _ _=>rfl
 have hT:Mq (W.alloc (.map #[] 0)) W.heap.size (sq []):=Mq.made W
 have hB:Below W.heap.size W (W.alloc (.map #[] 0)):=(Below.refl _ _).alloc (Nat.le_refl _) _
 have KM:=Lib.hid fun w (h:Below W.heap.size W w)=>ms_ok w (hW.below h)
 clear hW
 go_enter Tryz.func19,Tryz.ntmps19
 go_wp2_with (first|(refine wpList_sput rfl _ _ _ rfl Tryz.underlying45 Tryz.underlying30 rfl hT _ rfl rfl rfl rfl ?_;clear hT;intro w1 hT hg;replace hB:=mgrown hB hg (Nat.le_refl _) hB.size;clear hg)|fail)
 have HT:Hid (Mq w1 W.heap.size (sq LOne)):=Lib.hid hT
 clear hT
 refine(KM.out _ hB).mono ?_
 rintro e w2 ⟨rfl,hq⟩
 have hT2:=HT.out.below (hq.mono (Nat.le_refl _))
 have hB2:=hB.trans (hq.mono hB.size)
 have hlt:=hT2.lt
 have hT3:Mq (w2.iter ⟨#[45,126,42]⟩ 0) W.heap.size (sq (LOne++(GOne s).take 0)):=hT2.below ((Below.refl _ _).alloc (Nat.le_refl _) _)
 have hB3:Below W.heap.size W (w2.iter ⟨#[45,126,42]⟩ 0):=hB2.alloc hB2.size _
 have hI3:=World.iter_heap w2 ⟨#[45,126,42]⟩ 0
 have H3:=Lib.hid (And.intro hT3 (And.intro hB3 hI3))
 clear hT2 hB2 hT3 hB3 hI3 hB hq HT KM
 go_wp2_with fail
 go_loopw [] (fun wr=>∃k:Nat,k≤3∧wr.heap[w2.heap.size]?=some (.stringIter ⟨#[45,126,42]⟩ k)∧Mq wr W.heap.size (sq (LOne++(GOne s).take k))∧Below W.heap.size W wr) (fun wr=>3-wr.iterPos w2.heap.size)
 case atStart=>exact⟨0,Nat.zero_le _,H3.out.2.2,H3.out.1,H3.out.2.1⟩
 case round=>
  obtain⟨k,hk,hI,hT,hB⟩:=hrel
  by_cases hlt2:k<3
  · obtain⟨c,hc,h128,hen,hs,hn,hL⟩:=stepOne s hlt2
    have hnext:∀ty,(Instr.next (.pointer (some ⟨w2.heap.size,0,none⟩)) true ty).run Tryz.prog wr=_:=fun ty=>Lib.run_next_ascii_at wr w2.heap.size ⟨#[45,126,42]⟩ k ty hI hlt2 (by rw[hc];exact h128)
    rw[hc]at hnext
    have hI1:=Lib.iterAt_heap wr w2.heap.size ⟨#[45,126,42]⟩ k (k+1) hI
    have hT1:=hT.iterAt (Nat.ne_of_lt hlt) ⟨#[45,126,42]⟩ (k+1)
    have hB1:=Lib.below_iterAt hB (Nat.le_of_lt hlt) ⟨#[45,126,42]⟩ (k+1)
    have hmu:wr.iterPos w2.heap.size=k:=by simp[World.iterPos,hI]
    generalize wr.iterAt w2.heap.size ⟨#[45,126,42]⟩ (k+1)=w4 at hnext hI1 hT1 hB1
    have hcv:=run_convert_int_string (P:=Tryz.prog) w4 21 30 .i32 (c.toNat:Int) rfl Tryz.underlying30
    rw[hen]at hcv
    have HH:=Lib.hid (And.intro hs (And.intro hn hL))
    have HT1:=Lib.hid hT1
    have HX:=Lib.hid (And.intro hI1 (And.intro hB1 hmu))
    clear hI hT hB hI1 hT1 hB1 hmu hs hn hL hc hen h128
    go_wp2_with (first|(at_mapUpdate;refine wpList_supd (v:=.func (.func 57) #[.string s] #[]) rfl _ _ _ rfl Tryz.underlying45 Tryz.underlying30 rfl HT1.out rfl rfl HH.out.1 HH.out.2.1 ?_;intro w5 hT5 hg5)|fail)
    have hI5:=iter_grown HX.out.1 hg5 (Nat.ne_of_gt hlt)
    have hB5:=mgrown HX.out.2.1 hg5 (Nat.le_refl _) HX.out.2.1.size
    rw[HH.out.2.2]at hT5
    go_wp2_with fail
    go_roundw
    case rel=>exact⟨_,_,_,_,_,_,_,_,_,⟨k+1,by omega,hI5,hT5,hB5⟩,rfl⟩
    case measure=>
     have hmu2:w5.iterPos w2.heap.size=k+1:=by simp[World.iterPos,hI5]
     rw[HX.out.2.2,hmu2]
     omega
  · obtain rfl:k=3:=by omega
    have hnext:∀ty,(Instr.next (.pointer (some ⟨w2.heap.size,0,none⟩)) true ty).run Tryz.prog wr=_:=fun ty=>Lib.run_next_end_at wr w2.heap.size ⟨#[45,126,42]⟩ 3 ty hI (by decide)
    have HT5:=Lib.hid (And.intro hT hB)
    clear hT hB
    go_wp2_with fail
    go_ret
    exact⟨_,rfl,HT5.out.1,HT5.out.2⟩
def LTwo:List (ByteArray×Value):=[(⟨#[35]⟩,.func (.func 72) #[] #[]),(⟨#[94]⟩,.func (.func 73) #[] #[]),(⟨#[36]⟩,.func (.func 74) #[] #[]),(⟨#[44]⟩,.func (.func 75) #[] #[]),(⟨#[63]⟩,.func (.func 76) #[] #[]),(⟨#[64]⟩,.func (.func 77) #[] #[])]
def GTwo (s:ByteArray):List (ByteArray×Value):=[43,45,42,37,33,38,124,60,62,61,126].map fun c=>(⟨#[c]⟩,.func (.func 79) #[.string s] #[])
def MTwo (s:ByteArray):List (ByteArray×Value):=LTwo++GTwo s
def MnTwo (s:ByteArray) (W:World) (e:Ending) (W':World):Prop:=∃b,e=.returned (.map (some b))∧Mq W' b (sq (MTwo s))∧Below W.heap.size W W'
theorem stepTwo (s:ByteArray) {k:Nat} (hk:k<11):∃c:UInt8,(⟨#[43,45,42,37,33,38,124,60,62,61,126]⟩:ByteArray)[k]'hk=c∧c.toNat<128∧Utf8.encode (c.toNat:Int)=⟨#[c]⟩∧shK (((⟨#[c]⟩:ByteArray),.bool true)::(LTwo++(GTwo s).take k))=true∧finK (LTwo++(GTwo s).take k) ⟨#[c]⟩=[]∧
 (LTwo++(GTwo s).take k)++[((⟨#[c]⟩:ByteArray),.func (.func 79) #[.string s] #[])]=LTwo++(GTwo s).take (k+1):=by
 match k,hk with
 | 0,_=>exact⟨43,rfl,by decide,by kernel_rfl,rfl,rfl,rfl⟩
 | 1,_=>exact⟨45,rfl,by decide,by kernel_rfl,rfl,rfl,rfl⟩
 | 2,_=>exact⟨42,rfl,by decide,by kernel_rfl,rfl,rfl,rfl⟩
 | 3,_=>exact⟨37,rfl,by decide,by kernel_rfl,rfl,rfl,rfl⟩
 | 4,_=>exact⟨33,rfl,by decide,by kernel_rfl,rfl,rfl,rfl⟩
 | 5,_=>exact⟨38,rfl,by decide,by kernel_rfl,rfl,rfl,rfl⟩
 | 6,_=>exact⟨124,rfl,by decide,by kernel_rfl,rfl,rfl,rfl⟩
 | 7,_=>exact⟨60,rfl,by decide,by kernel_rfl,rfl,rfl,rfl⟩
 | 8,_=>exact⟨62,rfl,by decide,by kernel_rfl,rfl,rfl,rfl⟩
 | 9,_=>exact⟨61,rfl,by decide,by kernel_rfl,rfl,rfl,rfl⟩
 | 10,_=>exact⟨126,rfl,by decide,by kernel_rfl,rfl,rfl,rfl⟩
theorem ofTwo_is (s:ByteArray) {W:World} (hW:SC W):Calls Tryz.prog 31 #[.string s] W (MnTwo s W):=by
 have hmm:=@run_makeMap Tryz.prog
 have hmf:∀(fn:Fn) (first cap:Array Value) (w:World),(Instr.makeFunc fn first cap).run Tryz.prog w=.ok (.func fn first cap) w:=fun _ _ _ _=>rfl
 have hT:Mq (W.alloc (.map #[] 0)) W.heap.size (sq []):=Mq.made W
 have hB:Below W.heap.size W (W.alloc (.map #[] 0)):=(Below.refl _ _).alloc (Nat.le_refl _) _
 have KM:=Lib.hid fun w (h:Below W.heap.size W w)=>ds_ok w (hW.below h)
 clear hW
 go_enter Tryz.func31,Tryz.ntmps31
 go_wp2_with (first|(refine wpList_sput rfl _ _ _ rfl Tryz.underlying49 Tryz.underlying30 rfl hT _ rfl rfl rfl rfl ?_;clear hT;intro w1 hT hg;replace hB:=mgrown hB hg (Nat.le_refl _) hB.size;clear hg)|fail)
 have HT:Hid (Mq w1 W.heap.size (sq LTwo)):=Lib.hid hT
 clear hT
 refine(KM.out _ hB).mono ?_
 rintro e w2 ⟨rfl,hq⟩
 have hT2:=HT.out.below (hq.mono (Nat.le_refl _))
 have hB2:=hB.trans (hq.mono hB.size)
 have hlt:=hT2.lt
 have hT3:Mq (w2.iter ⟨#[43,45,42,37,33,38,124,60,62,61,126]⟩ 0) W.heap.size (sq (LTwo++(GTwo s).take 0)):=hT2.below ((Below.refl _ _).alloc (Nat.le_refl _) _)
 have hB3:Below W.heap.size W (w2.iter ⟨#[43,45,42,37,33,38,124,60,62,61,126]⟩ 0):=hB2.alloc hB2.size _
 have hI3:=World.iter_heap w2 ⟨#[43,45,42,37,33,38,124,60,62,61,126]⟩ 0
 have H3:=Lib.hid (And.intro hT3 (And.intro hB3 hI3))
 clear hT2 hB2 hT3 hB3 hI3 hB hq HT KM
 go_wp2_with fail
 go_loopw [] (fun wr=>∃k:Nat,k≤11∧wr.heap[w2.heap.size]?=some (.stringIter ⟨#[43,45,42,37,33,38,124,60,62,61,126]⟩ k)∧Mq wr W.heap.size (sq (LTwo++(GTwo s).take k))∧Below W.heap.size W wr) (fun wr=>11-wr.iterPos w2.heap.size)
 case atStart=>exact⟨0,Nat.zero_le _,H3.out.2.2,H3.out.1,H3.out.2.1⟩
 case round=>
  obtain⟨k,hk,hI,hT,hB⟩:=hrel
  by_cases hlt2:k<11
  · obtain⟨c,hc,h128,hen,hs,hn,hL⟩:=stepTwo s hlt2
    have hnext:∀ty,(Instr.next (.pointer (some ⟨w2.heap.size,0,none⟩)) true ty).run Tryz.prog wr=_:=fun ty=>Lib.run_next_ascii_at wr w2.heap.size ⟨#[43,45,42,37,33,38,124,60,62,61,126]⟩ k ty hI hlt2 (by rw[hc];exact h128)
    rw[hc]at hnext
    have hI1:=Lib.iterAt_heap wr w2.heap.size ⟨#[43,45,42,37,33,38,124,60,62,61,126]⟩ k (k+1) hI
    have hT1:=hT.iterAt (Nat.ne_of_lt hlt) ⟨#[43,45,42,37,33,38,124,60,62,61,126]⟩ (k+1)
    have hB1:=Lib.below_iterAt hB (Nat.le_of_lt hlt) ⟨#[43,45,42,37,33,38,124,60,62,61,126]⟩ (k+1)
    have hmu:wr.iterPos w2.heap.size=k:=by simp[World.iterPos,hI]
    generalize wr.iterAt w2.heap.size ⟨#[43,45,42,37,33,38,124,60,62,61,126]⟩ (k+1)=w4 at hnext hI1 hT1 hB1
    have hcv:=run_convert_int_string (P:=Tryz.prog) w4 21 30 .i32 (c.toNat:Int) rfl Tryz.underlying30
    rw[hen]at hcv
    have HH:=Lib.hid (And.intro hs (And.intro hn hL))
    have HT1:=Lib.hid hT1
    have HX:=Lib.hid (And.intro hI1 (And.intro hB1 hmu))
    clear hI hT hB hI1 hT1 hB1 hmu hs hn hL hc hen h128
    go_wp2_with (first|(at_mapUpdate;refine wpList_supd (v:=.func (.func 79) #[.string s] #[]) rfl _ _ _ rfl Tryz.underlying49 Tryz.underlying30 rfl HT1.out rfl rfl HH.out.1 HH.out.2.1 ?_;intro w5 hT5 hg5)|fail)
    have hI5:=iter_grown HX.out.1 hg5 (Nat.ne_of_gt hlt)
    have hB5:=mgrown HX.out.2.1 hg5 (Nat.le_refl _) HX.out.2.1.size
    rw[HH.out.2.2]at hT5
    go_wp2_with fail
    go_roundw
    case rel=>exact⟨_,_,_,_,_,_,_,_,_,⟨k+1,by omega,hI5,hT5,hB5⟩,rfl⟩
    case measure=>
     have hmu2:w5.iterPos w2.heap.size=k+1:=by simp[World.iterPos,hI5]
     rw[HX.out.2.2,hmu2]
     omega
  · obtain rfl:k=11:=by omega
    have hnext:∀ty,(Instr.next (.pointer (some ⟨w2.heap.size,0,none⟩)) true ty).run Tryz.prog wr=_:=fun ty=>Lib.run_next_end_at wr w2.heap.size ⟨#[43,45,42,37,33,38,124,60,62,61,126]⟩ 11 ty hI (by decide)
    have HT5:=Lib.hid (And.intro hT hB)
    clear hT hB
    go_wp2_with fail
    go_ret
    exact⟨_,rfl,HT5.out.1,HT5.out.2⟩
end Go.Proofs.YtcfbjdplhgdpfaaGreatDoor

import Derived.Test.YtcfbjdplhgdpfaaGreatDoorMag
import Derived.Deep.RegionHeld3
set_option maxHeartbeats 1600000
set_option maxRecDepth 10000
namespace Go.Proofs.YtcfbjdplhgdpfaaGreatDoor
set_option linter.unusedVariables false
set_option linter.unusedSimpArgs false
open Go.RowKit
def figs (l:List UInt8):List UInt8:=Lib.trimPrefix l [45]
def AllDigB (l:List UInt8):Bool:=l.all fun c=>decide (48≤c.toNat)&&decide (c.toNat≤57)
theorem allDigB {l:List UInt8}:AllDigB l=true↔AllDig l:=by simp[AllDigB,AllDig]
def mayL (l:List UInt8):Bool:=decide (1≤(figs l).length)&&decide ((figs l).length≤100)&&AllDigB (figs l)&&(decide ((figs l).head?≠some 48)||decide (l=[48]))
theorem figs_neg (l:List UInt8):figs (45::l)=l:=by simp[figs,Lib.trimPrefix,Lib.hasPrefix,List.isPrefixOf]
theorem figs_pos {l:List UInt8} (h:l.head?≠some 45):figs l=l:=by
 cases l with
 |nil=>rfl
 |cons c r=>
  have hc:c≠45:=by intro e;exact h (by rw[e];rfl)
  have:Lib.hasPrefix (c::r) [45]=false:=by
   simp only[Lib.hasPrefix,List.isPrefixOf]
   simp;exact fun e=>hc e.symm
  unfold figs Lib.trimPrefix
  rw[this];rfl
theorem dec_head (n:Nat):(Lib.decDigits n).head?≠some 45:=by
 intro h
 obtain⟨c,r,e⟩:∃c r,Lib.decDigits n=c::r:=by
  cases h2:Lib.decDigits n with
  |nil=>exact absurd h2 (decDigits_ne n)
  |cons c r=>exact⟨c,r,rfl⟩
 have hd:=decDigits_dig n
 rw[e]at h hd
 injection h with h
 have:=(allDig_cons.1 hd).1
 rw[h]at this
 exact absurd this.1 (by decide)
theorem itoa_pos {x:Int} (h:0≤x):Lib.itoa x=Lib.decDigits x.natAbs:=by
 unfold Lib.itoa;rw[if_neg (by omega),show x.toNat=x.natAbs by omega]
theorem itoa_neg {x:Int} (h:x<0):Lib.itoa x=45::Lib.decDigits x.natAbs:=by
 unfold Lib.itoa;rw[if_pos h]
theorem figs_itoa (x:Int):figs (Lib.itoa x)=Lib.decDigits x.natAbs:=by
 by_cases h:x<0
 · rw[itoa_neg h,figs_neg]
 · rw[itoa_pos (by omega),figs_pos (dec_head _)]
theorem mayL_itoa (x:Int):mayL (Lib.itoa x)=true↔x.natAbs<lim:=by
 unfold mayL
 rw[figs_itoa]
 have h1:=decDigits_len_pos x.natAbs
 have h2:AllDigB (Lib.decDigits x.natAbs)=true:=allDigB.2 (decDigits_dig _)
 have h3:(decide ((Lib.decDigits x.natAbs).head?≠some 48)||decide (Lib.itoa x=[48]))=true:=by
  by_cases h0:x=0
  · subst h0
    rw[itoa_pos (Int.le_refl _),show(0:Int).natAbs=0 from rfl,decDigits_small (by omega)];rfl
  · obtain⟨c,r,e,hc⟩:=decDigits_head x.natAbs (by omega)
    rw[e]
    have:(c::r).head?≠some 48:=by
     intro h;injection h with h;rw[h]at hc;exact hc rfl
    rw[Bool.or_eq_true];exact .inl (decide_eq_true this)
 rw[h2,h3]
 simp only[Bool.and_true,Bool.and_eq_true,decide_eq_true_eq]
 rw[digs_lim]
 exact⟨fun h=>h.2,fun h=>⟨h1,h⟩⟩
theorem mayL_is {l:List UInt8} (h:mayL l=true):∃x:Int,l=Lib.itoa x∧x.natAbs<lim:=by
 have h0:=h
 unfold mayL at h
 simp only[Bool.and_eq_true,decide_eq_true_eq,Bool.or_eq_true]at h
 obtain⟨⟨⟨h1,h2⟩,h3⟩,h4⟩:=h
 have h3:=allDigB.1 h3
 suffices hs:∃x:Int,l=Lib.itoa x by
  obtain⟨x,rfl⟩:=hs
  exact⟨x,rfl,(mayL_itoa x).1 h0⟩
 by_cases hz:l=[48]
 · exact⟨0,by rw[hz,itoa_pos (Int.le_refl _),show(0:Int).natAbs=0 from rfl,decDigits_small (by omega)];rfl⟩
 · have h4:(figs l).head?≠some 48:=by rcases h4 with h|h;exact h;exact absurd h hz
   obtain⟨c,r,e⟩:∃c r,figs l=c::r:=by
    cases hf:figs l with
    |nil=>rw[hf]at h1;simp at h1
    |cons c r=>exact⟨c,r,rfl⟩
   have hc:c.toNat≠48:=by
    intro hc;apply h4;rw[e];exact congrArg some (u8_ext hc)
   have hd:=decDigits_of (figs l) h3 (by rw[e];simp) (.inr ⟨c,r,e,hc⟩)
   have hpos:0<dval (figs l):=by
    rw[e]at h3 ⊢
    rw[dval_cons]
    have:=(allDig_cons.1 h3).1
    have:0<(c.toNat-48)*10^r.length:=Nat.mul_pos (by omega) (Nat.pow_pos (by decide))
    omega
   by_cases hn:l.head?=some 45
   · obtain⟨r',rfl⟩:∃r',l=45::r':=by
      cases l with
      |nil=>cases hn
      |cons a r'=>injection hn with hn;subst hn;exact⟨r',rfl⟩
     rw[figs_neg]at hd hpos
     exact⟨-(dval r':Int),by rw[itoa_neg (by omega),show(-(dval r':Int)).natAbs=dval r' by omega,←hd]⟩
   · rw[figs_pos hn]at hd hpos
     exact⟨(dval l:Int),by rw[itoa_pos (by omega),show((dval l:Int)).natAbs=dval l by omega,←hd]⟩
theorem itoa_inj {x y:Int} (h:Lib.itoa x=Lib.itoa y):x=y:=by
 have h1:=congrArg figs h
 rw[figs_itoa,figs_itoa]at h1
 have h2:=decDigits_inj h1
 by_cases hx:x<0<;>by_cases hy:y<0
 · omega
 · rw[itoa_neg hx,itoa_pos (by omega)]at h
   exact absurd (congrArg List.head? h.symm) (dec_head _)
 · rw[itoa_neg hy,itoa_pos (by omega)]at h
   exact absurd (congrArg List.head? h) (dec_head _)
 · omega
end Go.Proofs.YtcfbjdplhgdpfaaGreatDoor
namespace Go.Proofs.YtcfbjdplhgdpfaaGreatDoor
set_option linter.unusedVariables false
set_option linter.unusedSimpArgs false
open Go.RowKit
theorem get_take_dig {f:ByteArray} {k:Nat} (hk:k<f.size) (h:AllDig (f.data.toList.take k)) (hc:48≤(f[k]).toNat∧(f[k]).toNat≤57):AllDig (f.data.toList.take (k+1)):=by
 rw[take_snoc f k hk]
 exact allDig_append.2 ⟨h,allDig_cons.2 ⟨hc,allDig_nil⟩⟩
theorem not_dig_of {f:ByteArray} {k:Nat} (hk:k<f.size) (hc:¬(48≤(f[k]).toNat∧(f[k]).toNat≤57)):AllDigB f.data.toList=false:=by
 cases h:AllDigB f.data.toList
 · rfl
 · exact absurd (dig_get f k (allDigB.1 h) hk) hc
def MayPost (b:Bool) (w:World) (e:Ending) (w':World):Prop:=e=.returned (.bool b)∧w=w'
theorem ret_bool {a b:Bool} (h:a=b):Ending.returned (.bool a)=.returned (.bool b):=by rw[h]
theorem head_get {f:ByteArray} (h:0<f.size):f.data.toList.head?=some f[0]:=by
 have hl:0<f.data.toList.length:=by simpa using h
 cases hd:f.data.toList with
 |nil=>rw[hd]at hl;simp at hl
 |cons a r=>
  have:f.data.toList[0]'hl=f[0]:=rfl
  simp only[hd,List.getElem_cons_zero]at this
  rw[←this];rfl
theorem str_tl (s:ByteArray):s.toList=s.data.toList:=ByteArray.toList_eq s
theorem may_any (s:ByteArray) (w:World) (hs:s.size≤maxLen):
 Calls Tryz.prog 44 #[.string s] w (MayPost (mayL s.data.toList) w):=by
 obtain⟨f,hf⟩:∃f:ByteArray,f=⟨(Lib.trimPrefix s.data.toList [45]).toArray⟩:=⟨_,rfl⟩
 have hF:figs s.data.toList=f.data.toList:=by rw[hf];rfl
 have hfl:(f.data.toList).length=f.size:=by simp
 have hT:=Tryz.strings_TrimPrefix s ⟨#[45]⟩ w
 rw[show Lib.trimPrefix s.data.toList (⟨#[45]⟩:ByteArray).data.toList=Lib.trimPrefix s.data.toList [45]from rfl,←hf]at hT
 have hM:mayL s.data.toList=(decide (1≤f.size)&&decide (f.size≤100)&&AllDigB f.data.toList&&(decide (f.data.toList.head?≠some 48)||decide (s.data.toList=[48]))):=by
  unfold mayL;rw[hF,hfl]
 rw[hM]
 have HT:=Lib.hid hT
 clear hM hT hF hf hfl
 by_cases h0:f.size=0
 · have e0:((f.size:Int)==0)=true:=by rw[h0];rfl
   go_enter Tryz.func44,Tryz.ntmps44
   go_wp2_with fail
   refine HT.out.mono ?_
   rintro e w1 ⟨rfl,rfl⟩
   go_wp2_with fail
   go_ret
   exact⟨ret_bool (by simp[h0]),rfl⟩
 · by_cases h1:100<f.size
   · have e0:((f.size:Int)==0)=false:=beq_eq_false_iff_ne.2 (by omega)
     go_enter Tryz.func44,Tryz.ntmps44
     go_wp2_with fail
     refine HT.out.mono ?_
     rintro e w1 ⟨rfl,rfl⟩
     go_wp2_with fail
     go_ret
     exact⟨ret_bool (by simp[show¬f.size≤100 by omega]),rfl⟩
   · have e0:((f.size:Int)==0)=false:=beq_eq_false_iff_ne.2 (by omega)
     have e1:¬(100:Int)<f.size:=by omega
     go_enter Tryz.func44,Tryz.ntmps44
     go_wp2_with fail
     refine HT.out.mono ?_
     rintro e w1 ⟨rfl,rfl⟩
     go_wp2_with fail
     go_loop [17] (fun i=>∃k:Nat,k≤f.size∧i=.int .i64 k∧AllDig (f.data.toList.take k)) (fun i=>f.size-(intOf i).toNat)
     case atStart=>exact⟨0,Nat.zero_le _,rfl,allDig_nil⟩
     case round=>
      obtain⟨k,hk,rfl,hI⟩:=hrel
      by_cases hlt:k<f.size
      · by_cases hc:48≤(f[k]).toNat∧(f[k]).toNat≤57
        · have hst:=get_take_dig hlt hI hc
          go_wp2_with fail
          go_round
          case rel=>exact⟨k+1,by omega,by go_num,hst⟩
          case measure=>simp[intOf];omega
        · have hnd:=not_dig_of hlt hc
          by_cases hc2:(f[k]).toNat<48
          · go_wp2_with fail
            go_ret
            exact⟨ret_bool (by simp[hnd]),rfl⟩
          · have hc3:57<(f[k]).toNat:=by omega
            go_wp2_with fail
            go_ret
            exact⟨ret_bool (by simp[hnd]),rfl⟩
      · rw[List.take_of_length_le (by simp;omega)]at hI
        have hh:=head_get (f:=f) (by omega)
        have hA:=allDigB.2 hI
        by_cases hc:f[0]=48
        · have hc':(((f[0]).toNat:Int) != 48)=false:=by rw[hc];rfl
          have HC:=Lib.hid hc
          have HH:=Lib.hid hh
          clear hc hh
          go_wp2_with fail
          go_ret
          refine⟨ret_bool ?_,rfl⟩
          rw[hA,HH.out,HC.out]
          show(s.toList==[48])=_
          rw[str_tl]
          simp[show 1≤f.size by omega,show f.size≤100 by omega]
          rw[Bool.eq_iff_iff,beq_iff_eq,decide_eq_true_eq]
        · have hc':(((f[0]).toNat:Int) != 48)=true:=by
           rw[bne_iff_ne];intro h;apply hc;exact u8_ext (by simpa using(by omega:(f[0]).toNat=48))
          go_wp2_with fail
          go_ret
          exact⟨ret_bool (by rw[hA,hh];simp[hc];omega),rfl⟩
end Go.Proofs.YtcfbjdplhgdpfaaGreatDoor
namespace Go.Proofs.YtcfbjdplhgdpfaaGreatDoor
set_option linter.unusedVariables false
set_option linter.unusedSimpArgs false
open Go.RowKit
theorem cmp_same_sign {x y:Int} (h:cmpI x.sign y.sign=0):x.sign*cmpN x.natAbs y.natAbs=cmpI x y:=by
 have hs:x.sign=y.sign:=by
  unfold cmpI at h
  split at h
  · cases h
  · split at h
    · cases h
    · omega
 unfold cmpN cmpI
 rcases Int.lt_trichotomy x 0 with hx|hx|hx
 · have hy:y<0:=by rw[Int.sign_eq_neg_one_of_neg hx]at hs;exact Int.neg_of_sign_eq_neg_one hs.symm
   rw[Int.sign_eq_neg_one_of_neg hx]
   rcases Nat.lt_trichotomy x.natAbs y.natAbs with a|a|a
   · rw[if_pos a,if_neg (by omega),if_pos (by omega)];rfl
   · rw[if_neg (by omega),if_neg (by omega),if_neg (by omega),if_neg (by omega)];rfl
   · rw[if_neg (by omega),if_pos a,if_pos (by omega)];rfl
 · subst hx
   have hy:y=0:=Int.eq_zero_of_sign_eq_zero hs.symm
   subst hy;rfl
 · have hy:0<y:=by rw[Int.sign_eq_one_of_pos hx]at hs;exact Int.pos_of_sign_eq_one hs.symm
   rw[Int.sign_eq_one_of_pos hx,Int.one_mul]
   rcases Nat.lt_trichotomy x.natAbs y.natAbs with a|a|a
   · rw[if_pos a,if_pos (by omega)]
   · rw[if_neg (by omega),if_neg (by omega),if_neg (by omega),if_neg (by omega)]
   · rw[if_neg (by omega),if_pos a,if_neg (by omega),if_pos (by omega)]
theorem cmpI_bd (a b:Int): -1≤cmpI a b∧cmpI a b≤1:=by unfold cmpI;split<;>(try split)<;>omega
theorem cmps_at {a b z:Int} (h:cmpI a b=z) (w:World):Calls Tryz.prog 252 #[.int .i64 a,.int .i64 b] w fun e w'=>e=.returned (.int .i64 z)∧w=w':=by
 rw[←h];exact cmps_any a b w
def CmpPost (z:Int) (w:World) (e:Ending) (w':World):Prop:=e=.returned (.int .i64 z)∧Below w.heap.size w w'
theorem compared_q {A B:Option Addr} {l m:List Nat} {c d:Nat} {w:World} (hA:Sz w A l) (hB:Sz w B m) (ol:Ok l) (om:Ok m) (nl:Norm l) (nm:Norm m) (hc:l.length≤maxLen) (hd:m.length≤maxLen) {z:Int} (hz:CmpVal l m=z) (n:Nat):
 Calls Tryz.prog 248 #[.slice A l.length c,.slice B m.length d] (w.drewN n) fun e w''=>e=.returned (.int .i64 z)∧∃k,w''=w.drewN k:=by
 subst hz
 refine(compared_any A B l m c d (w.drewN n) hA hB ol om nl nm hc hd).mono ?_
 rintro e w' ⟨rfl,k,rfl⟩
 exact⟨rfl,n+k,by rw[World.drewN_drewN]⟩
theorem against_any (x y:Int) (A B:Option Addr) (l m:List Nat) (c d:Nat) (w:World) (hA:Sz w A l) (hB:Sz w B m) (ol:Ok l) (om:Ok m) (nl:Norm l) (nm:Norm m) (hv:val l=x.natAbs) (hv':val m=y.natAbs) (hl:l.length≤1000) (hm:m.length≤1000):
 Calls Tryz.prog 232 #[.agg #[.int .i64 x.sign,.slice A l.length c],.agg #[.int .i64 y.sign,.slice B m.length d]] w (CmpPost (cmpI x y) w):=by
 by_cases hz:cmpI x.sign y.sign=0
 · have h1:=cmps_at hz
   have e1:=cmp_same_sign hz
   have hcv:CmpVal l m=cmpN x.natAbs y.natAbs:=by unfold CmpVal;rw[hv,hv']
   have hq:=fun(w1:World) (h1:Below w.heap.size w w1)=>compared_q (c:=c) (d:=d) (hA.below h1) (hB.below h1) ol om nl nm (by unfold maxLen;omega) (by unfold maxLen;omega) hcv
   obtain⟨r,hr⟩:∃r,r=cmpI x y:=⟨_,rfl⟩
   have hr1:=cmpI_bd x y
   rw[←hr]at e1 hr1 ⊢
   generalize cmpN x.natAbs y.natAbs=cv at hq e1
   generalize x.sign=sx at h1 e1 ⊢
   generalize y.sign=sy at h1 ⊢
   have hw:IntKind.i64.wrap (sx*cv)=r:=by rw[e1];exact IntWalk.i64_in _ (by omega)
   have H1:=Lib.hid h1
   have HQ:=Lib.hid hq
   clear h1 hq hr e1 hz hcv hv hv'
   go_enter Tryz.func232,Tryz.ntmps232
   go_wp2_with fail
   refine(H1.out _).mono ?_
   rintro e w1 ⟨rfl,rfl⟩
   go_wp2_with fail
   go_quiet ((go_at_call 248;exact HQ.out _ (((Below.refl _ _).alloc (Nat.le_refl _) _).alloc (by simp) _) _))
   go_wp2_with fail
   go_ret
   exact⟨rfl,Below.trans (((Below.refl _ _).alloc (Nat.le_refl _) _).alloc (by simp) _) (Drawn.below ⟨_,rfl⟩)⟩
 · have e1:=cmp_signs x y hz
   obtain⟨r,hr⟩:∃r,r=cmpI x y:=⟨_,rfl⟩
   rw[←hr]at e1 ⊢
   have h1:=cmps_at e1
   have hr1:(r != 0)=true:=by rw[bne_iff_ne,←e1];exact hz
   have H1:=Lib.hid h1
   clear h1 hr e1 hz hv hv'
   go_enter Tryz.func232,Tryz.ntmps232
   go_wp2_with fail
   refine(H1.out _).mono ?_
   rintro e w1 ⟨rfl,rfl⟩
   go_wp2_with fail
   go_ret
   exact⟨rfl,((Below.refl _ _).alloc (Nat.le_refl _) _).alloc (by simp) _⟩
end Go.Proofs.YtcfbjdplhgdpfaaGreatDoor
namespace Go.Proofs.YtcfbjdplhgdpfaaGreatDoor
set_option linter.unusedVariables false
set_option linter.unusedSimpArgs false
open Go.RowKit
theorem sign_mul_signs (x y:Int):x.sign*y.sign=(x*y).sign:=(Int.sign_mul x y).symm
theorem mul_made (x y:Int):x.sign*y.sign*((x.natAbs*y.natAbs:Nat):Int)=x*y:=by
 rw[←Int.natAbs_mul,←Int.sign_mul,Int.sign_mul_natAbs]
theorem sign_cases (x:Int):x.sign=1∨x.sign= -1∨x=0:=by
 rcases Int.lt_trichotomy x 0 with h|h|h
 · exact .inr (.inl (Int.sign_eq_neg_one_of_neg h))
 · exact .inr (.inr h)
 · exact .inl (Int.sign_eq_one_of_pos h)
theorem len_of_val {l:List Nat} (nl:Norm l) {n k:Nat} (h:val l=n) (hn:n<1000000000^k):l.length≤k:=len_le_of_lt nl (by rw[h];exact hn)
theorem cases3 {a b c d:Prop} (h:a∨b∨c) (f:c→d):a∨b∨d:=by
 rcases h with h|h|h
 · exact .inl h
 · exact .inr (.inl h)
 · exact .inr (.inr (f h))
structure Box3 (w W:World) (a0 a1 b0 b1:Value):Prop where
 c00:W.cell? ⟨w.heap.size,0,none⟩=some a0
 c01:W.cell? ⟨w.heap.size,1,none⟩=some a1
 c10:W.cell? ⟨w.heap.size+1,0,none⟩=some b0
 c11:W.cell? ⟨w.heap.size+1,1,none⟩=some b1
 q0:W.cell? ⟨w.heap.size+1+1,0,none⟩=some (.int .i64 0)
 q1:W.cell? ⟨w.heap.size+1+1,1,none⟩=some (.slice none 0 0)
 fa:∀i,W.frozen? ⟨w.heap.size,i,none⟩=false
 fb:∀i,W.frozen? ⟨w.heap.size+1,i,none⟩=false
 fr:∀i,W.frozen? ⟨w.heap.size+1+1,i,none⟩=false
 size:w.heap.size+3≤W.heap.size
 far:∀i n,W.cell? ⟨w.heap.size+1+1,i,none⟩≠some (.int .u32 n)
 bel:Below w.heap.size w W
theorem box3 (w:World) (a0 a1 b0 b1:Value) (t:TypeId):Box3 w (((w.alloc (.cells #[a0,a1] t)).alloc (.cells #[b0,b1] t)).alloc (.cells #[.int .i64 0,.slice none 0 0] t)) a0 a1 b0 b1:=by
 have hA:=heap_alloc_new w (.cells #[a0,a1] t)
 have hB:=heap_alloc_new (w.alloc (.cells #[a0,a1] t)) (.cells #[b0,b1] t)
 have hC:=heap_alloc_new ((w.alloc (.cells #[a0,a1] t)).alloc (.cells #[b0,b1] t)) (.cells #[.int .i64 0,.slice none 0 0] t)
 have s1:(w.alloc (.cells #[a0,a1] t)).heap.size=w.heap.size+1:=by simp
 have s2:((w.alloc (.cells #[a0,a1] t)).alloc (.cells #[b0,b1] t)).heap.size=w.heap.size+1+1:=by simp
 have hA2:=(Below.heap_alloc _ (.cells #[.int .i64 0,.slice none 0 0] t) w.heap.size (by rw[s2];omega)).trans ((Below.heap_alloc _ (.cells #[b0,b1] t) w.heap.size (by rw[s1];omega)).trans hA)
 rw[s1]at hB
 have hB2:=(Below.heap_alloc _ (.cells #[.int .i64 0,.slice none 0 0] t) (w.heap.size+1) (by rw[s2];omega)).trans hB
 rw[s2]at hC
 refine⟨?_,?_,?_,?_,?_,?_,fun i=>frozen_of_row _ _ i _ _ hA2,fun i=>frozen_of_row _ _ i _ _ hB2,fun i=>frozen_of_row _ _ i _ _ hC,by simp,fun i n=> ?_,((Below.refl _ _).alloc (Nat.le_refl _) _).alloc (by simp) _ |>.alloc (by simp;omega) _⟩
 · rw[cell_of_row _ _ 0 _ _ _ hA2];rfl
 · rw[cell_of_row _ _ 1 _ _ _ hA2];rfl
 · rw[cell_of_row _ _ 0 _ _ _ hB2];rfl
 · rw[cell_of_row _ _ 1 _ _ _ hB2];rfl
 · rw[cell_of_row _ _ 0 _ _ _ hC];rfl
 · rw[cell_of_row _ _ 1 _ _ _ hC];rfl
 · rw[cell_of_row _ _ i _ _ _ hC]
   rcases i with _|_|i<;>simp
theorem undrew {B:Nat} {w w':World} (h:Below B w.drew w'):Below B w w':=⟨h.os,h.tape,h.output,h.size,h.block⟩
theorem Box3.below {w W W':World} {a0 a1 b0 b1:Value} (h:Box3 w W a0 a1 b0 b1) (hb:Below W.heap.size W W'):Box3 w W' a0 a1 b0 b1:=by
 have hs:=h.size
 exact⟨(hb.cell (p:=⟨_,_,none⟩) (by show w.heap.size<_;omega)).trans h.c00,(hb.cell (p:=⟨_,_,none⟩) (by show w.heap.size<_;omega)).trans h.c01,
  (hb.cell (p:=⟨_,_,none⟩) (by show w.heap.size+1<_;omega)).trans h.c10,(hb.cell (p:=⟨_,_,none⟩) (by show w.heap.size+1<_;omega)).trans h.c11,
  (hb.cell (p:=⟨_,_,none⟩) (by show w.heap.size+1+1<_;omega)).trans h.q0,(hb.cell (p:=⟨_,_,none⟩) (by show w.heap.size+1+1<_;omega)).trans h.q1,
  fun i=>(hb.frozen (p:=⟨_,_,none⟩) (by show w.heap.size<_;omega)).trans (h.fa i),fun i=>(hb.frozen (p:=⟨_,_,none⟩) (by show w.heap.size+1<_;omega)).trans (h.fb i),fun i=>(hb.frozen (p:=⟨_,_,none⟩) (by show w.heap.size+1+1<_;omega)).trans (h.fr i),
  Nat.le_trans hs hb.size,fun i n=>by rw[hb.cell (p:=⟨_,_,none⟩) (by show w.heap.size+1+1<_;omega)];exact h.far i n,h.bel.trans (hb.mono (by omega))⟩
theorem keep2 {w:World} {g g' i k:Nat} {v a b:Value} (h:w.cell? ⟨g,i,none⟩=some v) (hne:g≠g'):((w.setCell ⟨g',0,none⟩ a).setCell ⟨g',k,none⟩ b).cell? ⟨g,i,none⟩=some v:=by
 rw[World.cell?_setCell_other _ _ _ _ (by intro e;injection e with e;exact hne e.symm),World.cell?_setCell_other _ _ _ _ (by intro e;injection e with e;exact hne e.symm),h]
theorem Box3.stored {w W:World} {a0 a1 b0 b1:Value} (h:Box3 w W a0 a1 b0 b1) (u v:Value):
 ((W.setCell ⟨w.heap.size+1+1,0,none⟩ u).setCell ⟨w.heap.size+1+1,1,none⟩ v).cell? ⟨w.heap.size,0,none⟩=some a0∧((W.setCell ⟨w.heap.size+1+1,0,none⟩ u).setCell ⟨w.heap.size+1+1,1,none⟩ v).cell? ⟨w.heap.size,1,none⟩=some a1∧
 ((W.setCell ⟨w.heap.size+1+1,0,none⟩ u).setCell ⟨w.heap.size+1+1,1,none⟩ v).cell? ⟨w.heap.size+1,0,none⟩=some b0∧((W.setCell ⟨w.heap.size+1+1,0,none⟩ u).setCell ⟨w.heap.size+1+1,1,none⟩ v).cell? ⟨w.heap.size+1,1,none⟩=some b1:=
 ⟨keep2 h.c00 (by omega),keep2 h.c01 (by omega),keep2 h.c10 (by omega),keep2 h.c11 (by omega)⟩
theorem Box3.res {w W:World} {a0 a1 b0 b1:Value} (h:Box3 w W a0 a1 b0 b1) (u v:Value):
 ((W.setCell ⟨w.heap.size+1+1,0,none⟩ u).setCell ⟨w.heap.size+1+1,1,none⟩ v).cell? ⟨w.heap.size+1+1,0,none⟩=some u∧((W.setCell ⟨w.heap.size+1+1,0,none⟩ u).setCell ⟨w.heap.size+1+1,1,none⟩ v).cell? ⟨w.heap.size+1+1,1,none⟩=some v∧Below w.heap.size w ((W.setCell ⟨w.heap.size+1+1,0,none⟩ u).setCell ⟨w.heap.size+1+1,1,none⟩ v):=by
 refine⟨?_,?_,(h.bel.setCell (by show _≤w.heap.size+1+1;omega) _).setCell (by show _≤w.heap.size+1+1;omega) _⟩
 · rw[World.cell?_setCell_other _ _ _ _ (by intro e;injection e with _ e;cases e)];exact World.cell?_setCell_same _ _ _ h.q0
 · exact World.cell?_setCell_same _ _ _ ((World.cell?_setCell_other _ _ _ _ (by intro e;injection e with _ e;cases e)).trans h.q1)
theorem Sz.far {w w':World} {A:Option Addr} {l:List Nat} {g:Nat} (h:Sz w A l) (hf:∀i n,w.cell? ⟨g,i,none⟩≠some (.int .u32 n)) (hb:Only g w w'):Sz w' A l:=by
 rcases h with h|⟨b,o,e,hlt,hc⟩
 · exact .inl h
 · by_cases hl:l=[]
   · subst hl;exact .inr ⟨b,o,e,Nat.lt_of_lt_of_le hlt hb.size,fun i hi=>by simp at hi⟩
   · have hne:b≠g:=by
      rintro rfl
      exact hf _ _ (hc 0 (List.length_pos_iff.2 hl))
     exact .inr ⟨b,o,e,Nat.lt_of_lt_of_le hlt hb.size,fun i hi=>(World.cell?_of_block (a:=⟨b,o+i,none⟩) (hb.block b hlt (by intro e;injection e with e;exact hne e))).trans (hc i hi)⟩
theorem Sz.stored {w W:World} {a0 a1 b0 b1:Value} (h:Box3 w W a0 a1 b0 b1) {A:Option Addr} {l:List Nat} (hA:Sz W A l) (u v:Value):
 Sz ((W.setCell ⟨w.heap.size+1+1,0,none⟩ u).setCell ⟨w.heap.size+1+1,1,none⟩ v) A l:=
 hA.far h.far (((Only.refl _ W).setCell 0 u).setCell 1 v)
def MadeRes (z sz:Int) (w:World) (e:Ending) (w':World):Prop:=∃P l c,e=.returned (.agg #[.int .i64 sz,.slice P l.length c])∧Sz w' P l∧Ok l∧Norm l∧val l=z.natAbs∧Below w.heap.size w w'
theorem made_to (s:Int) (A:Option Addr) (l:List Nat) (c:Nat) (w:World) (hA:Sz w A l) (ol:Ok l) (nl:Norm l) (hs:s=1∨s= -1∨l=[]) (hl:l.length≤1000) {z sz:Int} (hz:s*(val l:Int)=z) (hsz:z.sign=sz):
 Calls Tryz.prog 243 #[.int .i64 s,.slice A l.length c] w (MadeRes z sz w):=by
 subst hz hsz
 refine(made_any s A l c w hA ol nl hs hl).mono ?_
 rintro e w' ⟨v,rfl,⟨A',l',c',rfl,h1,h2,h3,h4⟩,hb⟩
 exact⟨A',l',c',rfl,h1,h2,h3,h4,hb⟩
theorem times_any (x y:Int) (A B:Option Addr) (l m:List Nat) (c d:Nat) (w:World) (hA:Sz w A l) (hB:Sz w B m) (ol:Ok l) (om:Ok m) (nl:Norm l) (nm:Norm m) (hv:val l=x.natAbs) (hv':val m=y.natAbs) (hl:l.length≤100) (hm:m.length≤100):
 Calls Tryz.prog 227 #[.agg #[.int .i64 x.sign,.slice A l.length c],.agg #[.int .i64 y.sign,.slice B m.length d]] w (MadePost (x*y) w):=by
 have hmul:=fun w1 hA1 hB1=>multiplied_any A B l m c d w1 hA1 hB1 ol om (by omega) (by omega)
 rw[hv,hv']at hmul
 have e1:=mul_made x y
 have hs:=sign_cases (x*y)
 rw[←sign_mul_signs]at hs
 have hlen:x.natAbs*y.natAbs<1000000000^200:=by
  have a1:=val_lt ol
  have a2:=val_lt om
  rw[hv]at a1;rw[hv']at a2
  have b1:1000000000^l.length≤1000000000^100:=Nat.pow_le_pow_right (by decide) hl
  have b2:1000000000^m.length≤1000000000^100:=Nat.pow_le_pow_right (by decide) hm
  rw[show(200:Nat)=100+100 from rfl,Nat.pow_add]
  exact Nat.mul_lt_mul_of_lt_of_le (by omega) (by omega) (Nat.pow_pos (by decide))
 obtain⟨sx,hsx⟩:∃sx,sx=x.sign:=⟨_,rfl⟩
 obtain⟨sy,hsy⟩:∃sy,sy=y.sign:=⟨_,rfl⟩
 rw[←hsx,←hsy]at e1 hs
 rw[←hsx,←hsy]
 have hw:IntKind.i64.wrap (sx*sy)=sx*sy:=by
  rcases hs with h|h|h
  · rw[h];rfl
  · rw[h];rfl
  · have:sx*sy=0:=by rw[hsx,hsy,←Int.sign_mul,h];rfl
    rw[this];rfl
 rw[hw.symm]at hs e1
 obtain⟨q,hq⟩:∃q,q=(x*y).sign:=⟨_,rfl⟩
 have HQ:=Lib.hid hq
 have hmade:=fun(w1:World) (P:Option Addr) (l':List Nat) (c':Nat) (hP:Sz w1 P l') (ok:Ok l') (nm:Norm l') (hvP:val l'=x.natAbs*y.natAbs)=>
  made_to (IntKind.i64.wrap (sx*sy)) P l' c' w1 hP ok nm (cases3 hs fun h=>(norm_val_zero nm).1 (by rw[hvP,←Int.natAbs_mul,h];rfl)) (Nat.le_trans (len_of_val nm hvP hlen) (by decide)) (z:=x*y) (sz:=q) (by rw[hvP];exact e1) hq.symm
 have HM:=Lib.hid hmade
 clear hmade
 have H1:=Lib.hid hmul
 have H2:=Lib.hid (And.intro e1 hlen)
 clear hmul e1 hlen hsx hsy hw hs hq
 go_enter Tryz.func227,Tryz.ntmps227
 go_wp2_with fail
 have hbox:=box3 w (.int .i64 sx) (.slice A l.length c) (.int .i64 sy) (.slice B m.length d) 200
 generalize ((w.alloc (.cells #[.int .i64 sx,.slice A l.length c] 200)).alloc (.cells #[.int .i64 sy,.slice B m.length d] 200)).alloc (.cells #[.int .i64 0,.slice none 0 0] 200)=W3 at hbox ⊢
 have hA3:=hA.below hbox.bel
 have hB3:=hB.below hbox.bel
 have c00:=hbox.c00
 have c01:=hbox.c01
 have c10:=hbox.c10
 have c11:=hbox.c11
 go_region_held3 (fun w'=>w'.cell? ⟨w.heap.size,0,none⟩=some (.int .i64 sx)∧w'.cell? ⟨w.heap.size,1,none⟩=some (.slice A l.length c)∧w'.cell? ⟨w.heap.size+1,0,none⟩=some (.int .i64 sy)∧w'.cell? ⟨w.heap.size+1,1,none⟩=some (.slice B m.length d))
  (first|exact⟨hbox.c00,hbox.c01,hbox.c10,hbox.c11⟩|exact⟨hbox1.c00,hbox1.c01,hbox1.c10,hbox1.c11⟩|exact⟨hbox2.c00,hbox2.c01,hbox2.c10,hbox2.c11⟩|exact hbox2.stored _ _)
  (first
    |(go_at_call 250;refine(H1.out _ (by exact hA3) (by exact hB3)).mono ?_;rintro e w4 ⟨_,rfl,⟨P,l',c',rfl,hP,okP,nmP,hvP⟩,hb4⟩;first|have hbox1:=hbox.below (undrew hb4)|have hbox1:=hbox.below hb4)
    |(go_at_call 243;refine(HM.out _ P l' c' hP okP nmP hvP).mono ?_;rintro e w5 ⟨P5,l5,c5,rfl,hP5,ok5,nm5,hv5,hb5⟩;(first|have hbox2:=hbox1.below (undrew hb5)|have hbox2:=hbox1.below hb5);have q0:=hbox2.q0;have q1:=hbox2.q1;have f0:=hbox2.fr 0;have f1:=hbox2.fr 1))
 obtain⟨r0,r1,hb⟩:=hbox2.res (.int .i64 q) (.slice P5 l5.length c5)
 have hS:=Sz.stored hbox2 hP5 (.int .i64 q) (.slice P5 l5.length c5)
 clear hbox hbox1 hbox2 hb4 hb5
 go_wp2_with fail
 exact bodyPost_ret (v:=.agg #[.int .i64 q,.slice P5 l5.length c5]) (by simp[results,Tryz.results227,go_sem,r0,r1]) rfl ⟨_,rfl,⟨P5,l5,c5,by rw[HQ.out],hS,ok5,nm5,hv5⟩,hb⟩
end Go.Proofs.YtcfbjdplhgdpfaaGreatDoor

import Derived.Test.YtcfbjdplhgdpfaaGreatDoorMam
import Derived.Test.YtcfbjdplhgdpfaaGreatDoorMak
set_option maxHeartbeats 800000
set_option maxRecDepth 10000
namespace Go.Proofs.YtcfbjdplhgdpfaaGreatDoor
set_option linter.unusedVariables false
set_option linter.unusedSimpArgs false
open Go.RowKit
theorem divided_any (x y:Int) (A B:Option Addr) (l m:List Nat) (c d:Nat) (w:World) (hA:Sz w A l) (hB:Sz w B m) (ol:Ok l) (om:Ok m) (nl:Norm l) (nm:Norm m) (hv:val l=x.natAbs) (hv':val m=y.natAbs) (hl:l.length≤50) (hm:m.length≤50) (hy:y≠0):
 Calls Tryz.prog 230 #[.agg #[.int .i64 x.sign,.slice A l.length c],.agg #[.int .i64 y.sign,.slice B m.length d]] w (DivPost x y w):=by
 by_cases h0:x.sign*((x.natAbs%y.natAbs:Nat):Int)=0
 · exact divided_eq x y A B l m c d w hA hB ol om nl nm hv hv' hl hm hy (.inl h0)
 · by_cases h1:(x.sign*((x.natAbs%y.natAbs:Nat):Int)).sign=y.sign
   · exact divided_eq x y A B l m c d w hA hB ol om nl nm hv hv' hl hm hy (.inr h1)
   · exact divided_ne x y A B l m c d w hA hB ol om nl nm hv hv' hl hm hy h0 h1
theorem fq_abs (x y:Int) (hy:y≠0):(fq x y).natAbs≤x.natAbs:=by
 unfold fq
 have key:∀a b:Int,0<b→(a/b).natAbs≤a.natAbs:=by
  intro a b hb
  have h1:=Int.mul_ediv_add_emod a b
  have h2:=Int.emod_nonneg a (show b≠0 by omega)
  have h3:=Int.emod_lt_of_pos a hb
  rcases Int.lt_or_le a 0 with ha|ha
  · have h4:a/b<0:=Int.ediv_neg_of_neg_of_pos ha hb
    have h8:a*b≤a:=by
     have h9:0≤(-a)*(b-1):=Int.mul_nonneg (by omega) (by omega)
     have h10:(-a)*(b-1)=a-a*b:=by rw[Int.mul_sub,Int.mul_one,Int.neg_mul];omega
     omega
    have h5:a≤a/b:=Int.le_ediv_of_mul_le hb h8
    omega
  · have h4:0≤a/b:=Int.ediv_nonneg ha (by omega)
    have h5:a/b≤a:=Int.ediv_le_self _ ha
    omega
 split
 · rename_i h;exact key x y h
 · have:=key (-x) (-y) (by omega)
   omega
theorem fr_abs (x y:Int) (hy:y≠0):(fr x y).natAbs≤y.natAbs:=by
 obtain⟨h1,h2⟩:=fr_bd (x:=x) hy
 rcases Int.lt_trichotomy y 0 with h|h|h
 · have:=h2 h;omega
 · exact absurd h hy
 · have:=h1 h;omega
theorem div_does (x y:Int) (hx:x.natAbs<lim) (hy:y.natAbs<lim) (h0:y≠0):DoesYes 228 x y (toldR (fq x y)) (toldE (fq x y)):=by
 intro A B l m c d w hA hB ol om nl nm hv hv' htab
 have l1:=vals_len nl hv hx
 have l2:=vals_len nm hv' hy
 have hD:=fun w1 h1 h2=>divided_any x y A B l m c d w1 h1 h2 ol om nl nm hv hv' (by omega) (by omega) h0
 have hs0:(y.sign==0)=false:=beq_eq_false_iff_ne.2 fun h=>h0 (Int.eq_zero_of_sign_eq_zero h)
 have hZ:=isZero_any y.sign false hs0
 have hl:(fq x y).natAbs<lim:=Nat.lt_of_le_of_lt (fq_abs x y h0) hx
 obtain⟨q,hq⟩:∃q,q=x.sign:=⟨_,rfl⟩
 obtain⟨q',hq'⟩:∃q,q=y.sign:=⟨_,rfl⟩
 obtain⟨q1,hq1⟩:∃q,q=(fq x y).sign:=⟨_,rfl⟩
 obtain⟨q2,hq2⟩:∃q,q=(fr x y).sign:=⟨_,rfl⟩
 rw[←hq,←hq']at hD ⊢
 rw[←hq']at hZ
 have HD:=Lib.hid hD
 have HZ:=Lib.hid hZ
 have HQ:=Lib.hid (And.intro hq1 hq2)
 have HL:=Lib.hid hl
 clear hD hZ hs0 hq hq' hq1 hq2 hx hy hl
 go_enter Tryz.func228,Tryz.ntmps228
 go_wp2_with fail
 have hN1:=(Nb.new w q A l.length c).alloc (.cells #[.int .i64 q',.slice B m.length d] 200)
 have hM1:=Nb.new (w.alloc (.cells #[.int .i64 q,.slice A l.length c] 200)) q' B m.length d
 rw[show(w.alloc (.cells #[.int .i64 q,.slice A l.length c] 200)).heap.size=w.heap.size+1 by simp]at hM1
 have hW:Below w.heap.size w ((w.alloc (.cells #[.int .i64 q,.slice A l.length c] 200)).alloc (.cells #[.int .i64 q',.slice B m.length d] 200)):=((Below.refl _ _).alloc (Nat.le_refl _) _).alloc (by simp) _
 generalize ((w.alloc (.cells #[.int .i64 q,.slice A l.length c] 200)).alloc (.cells #[.int .i64 q',.slice B m.length d] 200))=W at hN1 hM1 hW ⊢
 have k0:=hN1.c0
 have k1:=hN1.c1
 have k2:=hM1.c0
 have k3:=hM1.c1
 refine(HZ.out _).mono ?_
 rintro e W1 ⟨rfl,rfl⟩
 go_wp2_with fail
 refine(HD.out _ (hA.below hW) (hB.below hW)).mono ?_
 rintro e w2 ⟨_,_,rfl,⟨P1,m1,c1,rfl,hS1,ok1,nm1,hv1⟩,⟨P2,m2,c2,rfl,hS2,ok2,nm2,hv2⟩,hb2⟩
 rw[←HQ.out.1,←HQ.out.2]
 have hb:=hW.trans (hb2.mono hW.size)
 have hWB:Below w2.heap.size w2 ((w2.alloc (.cells #[.int .i64 q1,.slice P1 m1.length c1] 200)).alloc (.cells #[.int .i64 q2,.slice P2 m2.length c2] 200)):=((Below.refl _ _).alloc (Nat.le_refl _) _).alloc (by simp) _
 have hbb:=hb.trans (hWB.mono hb.size)
 go_wp2_with fail
 refine(told_to HQ.out.1 P1 m1 c1 _ (hS1.below hWB) ok1 nm1 hv1 (Nat.le_trans (vals_len nm1 hv1 HL.out) (by decide)) (htab.below hbb)).mono ?_
 rintro e w3 ⟨rfl,hb3⟩
 go_wp2_with fail
 go_ret2
 exact⟨rfl,hbb.trans (hb3.mono hbb.size)⟩
theorem div_zero (x:Int):DoesYes 228 x 0 ⟨#[]⟩ 5:=by
 intro A B l m c d w hA hB ol om nl nm hv hv' htab
 have hZ:=isZero_any 0 true rfl
 have HZ:=Lib.hid hZ
 rw[Int.sign_zero]
 generalize x.sign=q
 clear hZ hv hv'
 go_enter Tryz.func228,Tryz.ntmps228
 go_wp2_with fail
 refine(HZ.out _).mono ?_
 rintro e W1 ⟨rfl,rfl⟩
 go_wp2_with fail
 go_ret2
 exact⟨rfl,((Below.refl _ _).alloc (Nat.le_refl _) _).alloc (by simp) _⟩
theorem mod_does (x y:Int) (hx:x.natAbs<lim) (hy:y.natAbs<lim) (h0:y≠0):DoesYes 231 x y (toldR (fr x y)) (toldE (fr x y)):=by
 intro A B l m c d w hA hB ol om nl nm hv hv' htab
 have l1:=vals_len nl hv hx
 have l2:=vals_len nm hv' hy
 have hD:=fun w1 h1 h2=>divided_any x y A B l m c d w1 h1 h2 ol om nl nm hv hv' (by omega) (by omega) h0
 have hs0:(y.sign==0)=false:=beq_eq_false_iff_ne.2 fun h=>h0 (Int.eq_zero_of_sign_eq_zero h)
 have hZ:=isZero_any y.sign false hs0
 have hl:(fr x y).natAbs<lim:=Nat.lt_of_le_of_lt (fr_abs x y h0) hy
 obtain⟨q,hq⟩:∃q,q=x.sign:=⟨_,rfl⟩
 obtain⟨q',hq'⟩:∃q,q=y.sign:=⟨_,rfl⟩
 obtain⟨q1,hq1⟩:∃q,q=(fq x y).sign:=⟨_,rfl⟩
 obtain⟨q2,hq2⟩:∃q,q=(fr x y).sign:=⟨_,rfl⟩
 rw[←hq,←hq']at hD ⊢
 rw[←hq']at hZ
 have HD:=Lib.hid hD
 have HZ:=Lib.hid hZ
 have HQ:=Lib.hid (And.intro hq1 hq2)
 have HL:=Lib.hid hl
 clear hD hZ hs0 hq hq' hq1 hq2 hx hy hl
 go_enter Tryz.func231,Tryz.ntmps231
 go_wp2_with fail
 have hN1:=(Nb.new w q A l.length c).alloc (.cells #[.int .i64 q',.slice B m.length d] 200)
 have hM1:=Nb.new (w.alloc (.cells #[.int .i64 q,.slice A l.length c] 200)) q' B m.length d
 rw[show(w.alloc (.cells #[.int .i64 q,.slice A l.length c] 200)).heap.size=w.heap.size+1 by simp]at hM1
 have hW:Below w.heap.size w ((w.alloc (.cells #[.int .i64 q,.slice A l.length c] 200)).alloc (.cells #[.int .i64 q',.slice B m.length d] 200)):=((Below.refl _ _).alloc (Nat.le_refl _) _).alloc (by simp) _
 generalize ((w.alloc (.cells #[.int .i64 q,.slice A l.length c] 200)).alloc (.cells #[.int .i64 q',.slice B m.length d] 200))=W at hN1 hM1 hW ⊢
 have k0:=hN1.c0
 have k1:=hN1.c1
 have k2:=hM1.c0
 have k3:=hM1.c1
 refine(HZ.out _).mono ?_
 rintro e W1 ⟨rfl,rfl⟩
 go_wp2_with fail
 refine(HD.out _ (hA.below hW) (hB.below hW)).mono ?_
 rintro e w2 ⟨_,_,rfl,⟨P1,m1,c1,rfl,hS1,ok1,nm1,hv1⟩,⟨P2,m2,c2,rfl,hS2,ok2,nm2,hv2⟩,hb2⟩
 rw[←HQ.out.1,←HQ.out.2]
 have hb:=hW.trans (hb2.mono hW.size)
 have hWB:Below w2.heap.size w2 ((w2.alloc (.cells #[.int .i64 q1,.slice P1 m1.length c1] 200)).alloc (.cells #[.int .i64 q2,.slice P2 m2.length c2] 200)):=((Below.refl _ _).alloc (Nat.le_refl _) _).alloc (by simp) _
 have hbb:=hb.trans (hWB.mono hb.size)
 go_wp2_with fail
 refine(told_to HQ.out.2 P2 m2 c2 _ (hS2.below hWB) ok2 nm2 hv2 (Nat.le_trans (vals_len nm2 hv2 HL.out) (by decide)) (htab.below hbb)).mono ?_
 rintro e w3 ⟨rfl,hb3⟩
 go_wp2_with fail
 go_ret2
 exact⟨rfl,hbb.trans (hb3.mono hbb.size)⟩
theorem mod_zero (x:Int):DoesYes 231 x 0 ⟨#[]⟩ 5:=by
 intro A B l m c d w hA hB ol om nl nm hv hv' htab
 have hZ:=isZero_any 0 true rfl
 have HZ:=Lib.hid hZ
 rw[Int.sign_zero]
 generalize x.sign=q
 clear hZ hv hv'
 go_enter Tryz.func231,Tryz.ntmps231
 go_wp2_with fail
 refine(HZ.out _).mono ?_
 rintro e W1 ⟨rfl,rfl⟩
 go_wp2_with fail
 go_ret2
 exact⟨rfl,((Below.refl _ _).alloc (Nat.le_refl _) _).alloc (by simp) _⟩
theorem Div_yes (x y:Int) (w:World) (hx:x.natAbs<lim) (hy:y.natAbs<lim) (h0:y≠0) (htab:Tab w):Calls Tryz.prog 203 #[.string (S x),.string (S y)] w (OpPost (fq x y) w):=by
 have hT:=together_yes 228 (enters_of Tryz.func228 (by kernel_rfl) rfl) x y _ _ w hx hy htab (div_does x y hx hy h0)
 have HT:=Lib.hid hT
 obtain⟨r,hr⟩:∃r,r=toldR (fq x y):=⟨_,rfl⟩
 obtain⟨ec,hec⟩:∃r,r=toldE (fq x y):=⟨_,rfl⟩
 rw[←hr,←hec]at HT
 have HE:=Lib.hid (And.intro hr hec)
 clear hT hr hec hx hy
 go_enter Tryz.func203,Tryz.ntmps203
 go_wp2_with fail
 refine HT.out.mono ?_
 rintro e w1 ⟨rfl,hb⟩
 go_wp2_with fail
 go_ret2
 exact⟨by rw[←HE.out.1,←HE.out.2];rfl,hb⟩
theorem Div_no (s t:ByteArray) (w:World) (hs:s.size≤maxLen) (ht:t.size≤maxLen) (h:(mayL s.data.toList&&mayL t.data.toList)=false):Calls Tryz.prog 203 #[.string s,.string t] w (ArgNo w):=by
 have hT:=fun fv=>together_no fv s t w hs ht h
 have HT:=Lib.hid hT
 clear hT h
 go_enter Tryz.func203,Tryz.ntmps203
 go_wp2_with fail
 refine(HT.out _).mono ?_
 rintro e w1 ⟨rfl,hb⟩
 go_wp2_with fail
 go_ret2
 exact⟨rfl,hb⟩
theorem Div_zero (x:Int) (w:World) (hx:x.natAbs<lim) (htab:Tab w):Calls Tryz.prog 203 #[.string (S x),.string (S 0)] w fun e w'=>e=.returned (.tuple #[.string ⟨#[]⟩,.int .i64 5])∧Below w.heap.size w w':=by
 have hT:=together_yes 228 (enters_of Tryz.func228 (by kernel_rfl) rfl) x 0 _ _ w hx (by exact lim_pos) htab (div_zero x)
 have HT:=Lib.hid hT
 clear hT hx
 go_enter Tryz.func203,Tryz.ntmps203
 go_wp2_with fail
 refine HT.out.mono ?_
 rintro e w1 ⟨rfl,hb⟩
 go_wp2_with fail
 go_ret2
 exact⟨rfl,hb⟩
theorem Mod_yes (x y:Int) (w:World) (hx:x.natAbs<lim) (hy:y.natAbs<lim) (h0:y≠0) (htab:Tab w):Calls Tryz.prog 204 #[.string (S x),.string (S y)] w (OpPost (fr x y) w):=by
 have hT:=together_yes 231 (enters_of Tryz.func231 (by kernel_rfl) rfl) x y _ _ w hx hy htab (mod_does x y hx hy h0)
 have HT:=Lib.hid hT
 obtain⟨r,hr⟩:∃r,r=toldR (fr x y):=⟨_,rfl⟩
 obtain⟨ec,hec⟩:∃r,r=toldE (fr x y):=⟨_,rfl⟩
 rw[←hr,←hec]at HT
 have HE:=Lib.hid (And.intro hr hec)
 clear hT hr hec hx hy
 go_enter Tryz.func204,Tryz.ntmps204
 go_wp2_with fail
 refine HT.out.mono ?_
 rintro e w1 ⟨rfl,hb⟩
 go_wp2_with fail
 go_ret2
 exact⟨by rw[←HE.out.1,←HE.out.2];rfl,hb⟩
theorem Mod_no (s t:ByteArray) (w:World) (hs:s.size≤maxLen) (ht:t.size≤maxLen) (h:(mayL s.data.toList&&mayL t.data.toList)=false):Calls Tryz.prog 204 #[.string s,.string t] w (ArgNo w):=by
 have hT:=fun fv=>together_no fv s t w hs ht h
 have HT:=Lib.hid hT
 clear hT h
 go_enter Tryz.func204,Tryz.ntmps204
 go_wp2_with fail
 refine(HT.out _).mono ?_
 rintro e w1 ⟨rfl,hb⟩
 go_wp2_with fail
 go_ret2
 exact⟨rfl,hb⟩
theorem Mod_zero (x:Int) (w:World) (hx:x.natAbs<lim) (htab:Tab w):Calls Tryz.prog 204 #[.string (S x),.string (S 0)] w fun e w'=>e=.returned (.tuple #[.string ⟨#[]⟩,.int .i64 5])∧Below w.heap.size w w':=by
 have hT:=together_yes 231 (enters_of Tryz.func231 (by kernel_rfl) rfl) x 0 _ _ w hx (by exact lim_pos) htab (mod_zero x)
 have HT:=Lib.hid hT
 clear hT hx
 go_enter Tryz.func204,Tryz.ntmps204
 go_wp2_with fail
 refine HT.out.mono ?_
 rintro e w1 ⟨rfl,hb⟩
 go_wp2_with fail
 go_ret2
 exact⟨rfl,hb⟩
end Go.Proofs.YtcfbjdplhgdpfaaGreatDoor
namespace Go.Proofs.YtcfbjdplhgdpfaaGreatDoor
set_option linter.unusedVariables false
set_option linter.unusedSimpArgs false
open Go.RowKit
theorem dig_lit {l:List UInt8} (ha:AllDig l) (hc:∃c r,l=c::r∧c.toNat≠48):Lib.decDigits (dval l)=l:=by
 have hne:l≠[]:=by obtain⟨c,r,rfl,_⟩:=hc;simp
 exact(decDigits_of l ha hne (.inr hc)).symm
theorem S_lit {l:List UInt8} {n:Nat} (hn:dval l=n) (ha:AllDig l) (hc:∃c r,l=c::r∧c.toNat≠48):S (n:Int)=⟨l.toArray⟩:=by
 rw[S_pos (n:=n) (by omega) (by omega),←hn,dig_lit ha hc]
theorem lim_big:10000000000000000000000≤lim:=by unfold lim;decide+kernel
theorem toldR_yes {z:Int} (h:z.natAbs<lim):toldR z=S z:=by unfold toldR;rw[if_pos h]
theorem toldE_yes {z:Int} (h:z.natAbs<lim):toldE z=0:=by unfold toldE;rw[if_pos h]
def TrueEnd (w:World) (e:Ending) (w':World):Prop:=e=.returned (.bool true)∧Below w.heap.size w w'
def MayIs (a:ByteArray) (v:Bool):Prop:=∀w,Calls Tryz.prog 44 #[.string a] w (MayPost v w)
def CmpIs (a b:ByteArray) (z:Int):Prop:=∀w,Calls Tryz.prog 208 #[.string a,.string b] w (CmpPost z w)
def SignIs (a:ByteArray) (z:Int):Prop:=∀w,Calls Tryz.prog 198 #[.string a] w (CmpPost z w)
end Go.Proofs.YtcfbjdplhgdpfaaGreatDoor
namespace Go.Proofs.YtcfbjdplhgdpfaaGreatDoor
set_option linter.unusedVariables false
set_option linter.unusedSimpArgs false
open Go.RowKit
def bI (b:Bool):Int:=if b then 1 else 0
theorem bI_cases (b:Bool):bI b=0∨bI b=1:=by cases b<;>simp[bI]
theorem bI_abs (b:Bool):(bI b).natAbs<lim:=by
 have:=lim_big
 rcases bI_cases b with h|h<;>rw[h]<;>simp<;>omega
def tlI (z:Int):Option Int×Int:=if z.natAbs<lim then(some z,0)else(none,8)
def dyI (k:Nat) (x y:Int):Option Int×Int:=
 match k with
 | 0=>tlI (x+y)
 | 1=>tlI (x-y)
 | 2=>tlI (x*y)
 | 3=>if y=0 then(none,5)else(some (fq x y),0)
 | 4=>if y=0 then(none,5)else(some (fr x y),0)
 | 5=>(some (if x≤y then x else y),0)
 | 6=>(some (if x≤y then y else x),0)
 | 7=>(some (bI (decide (x<y))),0)
 | 8=>(some (bI (decide (y<x))),0)
 | 9=>(some (bI (decide (x=y))),0)
 | 10=>(some (bI (!decide (x=y))),0)
 |_=>(none,1)
def dyO (k:Nat):Option Int→Option Int→Option Int×Int
 |some x,some y=>dyI k x y
 |_,_=>(none,1)
def kdL (l:List UInt8):Nat:=if l=[43]then 0 else if l=[45]then 1 else if l=[42]then 2 else if l=[37]then 3 else if l=[33]then 4 else if l=[38]then 5 else if l=[124]then 6 else if l=[60]then 7 else if l=[62]then 8 else if l=[61]then 9 else if l=[126]then 10 else 11
def mnI (k:Nat) (x:Int):Option Int×Int:=
 match k with
 | 0=>(some (-x),0)
 | 1=>(some (bI (decide (x=0))),0)
 | 2=>(some x.sign,0)
 |_=>(none,1)
def mnO (k:Nat):Option Int→Option Int×Int
 |some x=>mnI k x
 |none=>(none,1)
def kmL (l:List UInt8):Nat:=if l=[45]then 0 else if l=[126]then 1 else if l=[42]then 2 else 3
theorem tlI_bd {z:Int}:∀v,(tlI z).1=some v→v.natAbs<lim:=by
 intro v hv
 unfold tlI at hv
 split at hv
 · cases hv;assumption
 · cases hv
theorem dyI_bd {k:Nat} {x y:Int} (hx:x.natAbs<lim) (hy:y.natAbs<lim):∀v,(dyI k x y).1=some v→v.natAbs<lim:=by
 intro v hv
 unfold dyI at hv
 split at hv
 · exact tlI_bd v hv
 · exact tlI_bd v hv
 · exact tlI_bd v hv
 · split at hv
   · cases hv
   · cases hv;exact Nat.lt_of_le_of_lt (fq_abs x y (by assumption)) hx
 · split at hv
   · cases hv
   · cases hv;exact Nat.lt_of_le_of_lt (fr_abs x y (by assumption)) hy
 · cases hv;split<;>assumption
 · cases hv;split<;>assumption
 · cases hv;exact bI_abs _
 · cases hv;exact bI_abs _
 · cases hv;exact bI_abs _
 · cases hv;exact bI_abs _
 · cases hv
theorem mnI_bd {k:Nat} {x:Int} (hx:x.natAbs<lim):∀v,(mnI k x).1=some v→v.natAbs<lim:=by
 intro v hv
 unfold mnI at hv
 split at hv
 · cases hv;rw[Int.natAbs_neg];exact hx
 · cases hv;exact bI_abs _
 · cases hv
   have:=lim_big
   rcases Int.lt_trichotomy x 0 with h|h|h
   · rw[Int.sign_eq_neg_one_of_neg h];simp;omega
   · subst h;simp;omega
   · rw[Int.sign_eq_one_of_pos h];simp;omega
 · cases hv
theorem dyI_none {k:Nat} {x y:Int}:((dyI k x y).2=0∧(dyI k x y).1.isSome=true)∨((dyI k x y).1=none∧((dyI k x y).2=1∨(dyI k x y).2=5∨(dyI k x y).2=8)):=by
 unfold dyI tlI
 split<;>(try split)<;>simp
theorem kdL_inv {l:List UInt8} {k:Nat} (h:kdL l=k):(k=0∧l=[43])∨(k=1∧l=[45])∨(k=2∧l=[42])∨(k=3∧l=[37])∨(k=4∧l=[33])∨(k=5∧l=[38])∨(k=6∧l=[124])∨(k=7∧l=[60])∨(k=8∧l=[62])∨(k=9∧l=[61])∨(k=10∧l=[126])
 ∨(k=11∧l≠[43]∧l≠[45]∧l≠[42]∧l≠[37]∧l≠[33]∧l≠[38]∧l≠[124]∧l≠[60]∧l≠[62]∧l≠[61]∧l≠[126]):=by
 unfold kdL at h
 repeat' split at h
 all_goals(subst h;simp_all)
theorem kmL_inv {l:List UInt8} {k:Nat} (h:kmL l=k):(k=0∧l=[45])∨(k=1∧l=[126])∨(k=2∧l=[42])∨(k=3∧l≠[45]∧l≠[126]∧l≠[42]):=by
 unfold kmL at h
 repeat' split at h
 all_goals(subst h;simp_all)
end Go.Proofs.YtcfbjdplhgdpfaaGreatDoor
namespace Go.Proofs.YtcfbjdplhgdpfaaGreatDoor
set_option linter.unusedVariables false
set_option linter.unusedSimpArgs false
open Go.RowKit
theorem toList_inj {a b:ByteArray} (h:a.toList=b.toList):a=b:=by
 rw[str_tl,str_tl]at h
 obtain⟨⟨l⟩⟩:=a
 obtain⟨⟨m⟩⟩:=b
 have h:l=m:=h
 rw[h]
def dS (k:Nat):ByteArray:=[(⟨#[43]⟩:ByteArray),⟨#[45]⟩,⟨#[42]⟩,⟨#[37]⟩,⟨#[33]⟩,⟨#[38]⟩,⟨#[124]⟩,⟨#[60]⟩,⟨#[62]⟩,⟨#[61]⟩,⟨#[126]⟩].getD k ⟨#[]⟩
def dW (k:Nat):Bool:=[true,true,true,false,false,true,true,true,true,true,true].getD k false
def dU (k:Nat):ByteArray:=[(⟨#[48]⟩:ByteArray),⟨#[]⟩,⟨#[49]⟩].getD k ⟨#[]⟩
def drow:Array Value:=((List.range 11).flatMap fun k=>[Value.string (dS k),Value.bool (dW k),Value.string (dU k)]).toArray
def mrow:Array Value:=#[.string ⟨#[45]⟩,.string ⟨#[126]⟩,.string ⟨#[42]⟩]
def RowAt (w:World) (g:Nat) (r:Array Value):Prop:=∃t fr,w.heap[g]?=some (.cells r t fr)
theorem RowAt.below {w w':World} {g:Nat} {r:Array Value} (h:RowAt w g r) (hb:Below w.heap.size w w'):RowAt w' g r:=by
 obtain⟨t,fr,h⟩:=h
 exact⟨t,fr,(hb.block _ (Array.getElem?_eq_some_iff.1 h).1).trans h⟩
structure SC (W:World):Prop where
 tab:Tab W
 dy:RowAt W 1 drow
theorem SC.below {w w':World} (h:SC w) (hb:Below w.heap.size w w'):SC w':=⟨h.tab.below hb,h.dy.below hb⟩
structure SM (W:World):Prop where
 sc:SC W
 mo:RowAt W 0 mrow
theorem SM.below {w w':World} (h:SM w) (hb:Below w.heap.size w w'):SM w':=⟨h.sc.below hb,h.mo.below hb⟩
def DyIs (op a b d:ByteArray) (ec:Int):Prop:=∀w,SC w→Calls Tryz.prog 158 #[.string op,.string a,.string b] w fun e w'=>e=.returned (.tuple #[.string d,.int .i64 ec])∧Below w.heap.size w w'
def MnIs (op a d:ByteArray) (ec:Int):Prop:=∀w,SC w→Calls Tryz.prog 145 #[.string op,.string a] w fun e w'=>e=.returned (.tuple #[.string d,.int .i64 ec])∧Below w.heap.size w w'
def UnIs (op u:ByteArray) (b:Bool):Prop:=∀w,SC w→Calls Tryz.prog 40 #[.string op] w fun e w'=>e=.returned (.tuple #[.string u,.bool b])∧Below w.heap.size w w'
def DsIs:Prop:=∀w,SC w→Calls Tryz.prog 78 #[] w fun e w'=>e=.returned (.string ⟨#[43,45,42,37,33,38,124,60,62,61,126]⟩)∧Below w.heap.size w w'
def MsIs:Prop:=∀w,SM w→Calls Tryz.prog 56 #[] w fun e w'=>e=.returned (.string ⟨#[45,126,42]⟩)∧Below w.heap.size w w'
def DyOk:Prop:=∀{op s t:ByteArray} {o p:Option Int},op.size≤maxLen→Is s o→Is t p→DyIs op s t (T (dyO (kdL op.data.toList) o p).1) (dyO (kdL op.data.toList) o p).2
def MnOk:Prop:=∀{op s:ByteArray} {o:Option Int},op.size≤maxLen→Is s o→MnIs op s (T (mnO (kmL op.data.toList) o).1) (mnO (kmL op.data.toList) o).2
def UnOk:Prop:=∀{op:ByteArray},op.size≤maxLen→UnIs op (if op.data.toList=[43]then⟨#[48]⟩else if op.data.toList=[42]then⟨#[49]⟩else⟨#[]⟩) (decide (op.data.toList=[43])||decide (op.data.toList=[42]))
theorem S_1:S 1=⟨#[49]⟩:=S_lit (l:=[49]) (n:=1) rfl (by unfold AllDig;decide) ⟨_,_,rfl,by decide⟩
theorem S_0:S 0=⟨#[48]⟩:=by
 rw[S_pos (n:=0) rfl (by decide),decDigits_small (by decide)]
 rfl
end Go.Proofs.YtcfbjdplhgdpfaaGreatDoor

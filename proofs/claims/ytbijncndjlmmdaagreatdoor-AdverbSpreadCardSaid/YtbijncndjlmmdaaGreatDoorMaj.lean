import Derived.Test.YtbijncndjlmmdaaGreatDoorMai
import Derived.Test.YtbijncndjlmmdaaGreatDoorMah
import Derived.BigQuiet
set_option maxHeartbeats 3200000
set_option maxRecDepth 10000
namespace Go.Proofs.YtbijncndjlmmdaaGreatDoor
set_option linter.unusedVariables false
set_option linter.unusedSimpArgs false
open Go.RowKit
theorem divided_any (x y:Int) (A B:Option Addr) (l m:List Nat) (c d:Nat) (w:World) (hA:Sz w A l) (hB:Sz w B m) (ol:Ok l) (om:Ok m) (nl:Norm l) (nm:Norm m) (hv:val l=x.natAbs) (hv':val m=y.natAbs) (hl:l.length≤50) (hm:m.length≤50) (hy:y≠0):
 Calls Tryz.prog 269 #[.agg #[.int .i64 x.sign,.slice A l.length c],.agg #[.int .i64 y.sign,.slice B m.length d]] w (DivPost x y w):=by
 by_cases h0:x.sign*((x.natAbs%y.natAbs:Nat):Int)=0
 · exact divided_eq x y A B l m c d w hA hB ol om nl nm hv hv' hl hm hy (.inl h0)
 · by_cases h1:(x.sign*((x.natAbs%y.natAbs:Nat):Int)).sign=y.sign
   · exact divided_eq x y A B l m c d w hA hB ol om nl nm hv hv' hl hm hy (.inr h1)
   · exact divided_ne x y A B l m c d w hA hB ol om nl nm hv hv' hl hm hy h0 h1
theorem fq_abs (x y:Int) (hy:y≠0):(fq x y).natAbs≤x.natAbs:=by
 unfold fq
 have key:∀a b:Int,0<b→(a/b).natAbs≤a.natAbs:=by
  intro a b hb
  have h1:=Int.mul_ediv_add_emod a b
  have h2:=Int.emod_nonneg a (show b≠0 by omega)
  have h3:=Int.emod_lt_of_pos a hb
  rcases Int.lt_or_le a 0 with ha|ha
  · have h4:a/b<0:=Int.ediv_neg_of_neg_of_pos ha hb
    have h8:a*b≤a:=by
     have h9:0≤(-a)*(b-1):=Int.mul_nonneg (by omega) (by omega)
     have h10:(-a)*(b-1)=a-a*b:=by rw[Int.mul_sub,Int.mul_one,Int.neg_mul];omega
     omega
    have h5:a≤a/b:=Int.le_ediv_of_mul_le hb h8
    omega
  · have h4:0≤a/b:=Int.ediv_nonneg ha (by omega)
    have h5:a/b≤a:=Int.ediv_le_self _ ha
    omega
 split
 · rename_i h;exact key x y h
 · have:=key (-x) (-y) (by omega)
   omega
theorem fr_abs (x y:Int) (hy:y≠0):(fr x y).natAbs≤y.natAbs:=by
 obtain⟨h1,h2⟩:=fr_bd (x:=x) hy
 rcases Int.lt_trichotomy y 0 with h|h|h
 · have:=h2 h;omega
 · exact absurd h hy
 · have:=h1 h;omega
theorem div_does (x y:Int) (hx:x.natAbs<lim) (hy:y.natAbs<lim) (h0:y≠0):DoesYes 267 x y (toldR (fq x y)) (toldE (fq x y)):=by
 intro A B l m c d w hA hB ol om nl nm hv hv' htab
 have l1:=vals_len nl hv hx
 have l2:=vals_len nm hv' hy
 have hD:=fun w1 h1 h2=>divided_any x y A B l m c d w1 h1 h2 ol om nl nm hv hv' (by omega) (by omega) h0
 have hs0:(y.sign==0)=false:=beq_eq_false_iff_ne.2 fun h=>h0 (Int.eq_zero_of_sign_eq_zero h)
 have hZ:=isZero_any y.sign false hs0
 have hl:(fq x y).natAbs<lim:=Nat.lt_of_le_of_lt (fq_abs x y h0) hx
 obtain⟨q,hq⟩:∃q,q=x.sign:=⟨_,rfl⟩
 obtain⟨q',hq'⟩:∃q,q=y.sign:=⟨_,rfl⟩
 obtain⟨q1,hq1⟩:∃q,q=(fq x y).sign:=⟨_,rfl⟩
 obtain⟨q2,hq2⟩:∃q,q=(fr x y).sign:=⟨_,rfl⟩
 rw[←hq,←hq']at hD ⊢
 rw[←hq']at hZ
 have HD:=Lib.hid hD
 have HZ:=Lib.hid hZ
 have HQ:=Lib.hid (And.intro hq1 hq2)
 have HL:=Lib.hid hl
 clear hD hZ hs0 hq hq' hq1 hq2 hx hy hl
 go_enter Tryz.func267,Tryz.ntmps267
 go_wp2_with fail
 have hN1:=(Nb.new w q A l.length c).alloc (.cells #[.int .i64 q',.slice B m.length d] 225)
 have hM1:=Nb.new (w.alloc (.cells #[.int .i64 q,.slice A l.length c] 225)) q' B m.length d
 rw[show(w.alloc (.cells #[.int .i64 q,.slice A l.length c] 225)).heap.size=w.heap.size+1 by simp]at hM1
 have hW:Below w.heap.size w ((w.alloc (.cells #[.int .i64 q,.slice A l.length c] 225)).alloc (.cells #[.int .i64 q',.slice B m.length d] 225)):=((Below.refl _ _).alloc (Nat.le_refl _) _).alloc (by simp) _
 generalize ((w.alloc (.cells #[.int .i64 q,.slice A l.length c] 225)).alloc (.cells #[.int .i64 q',.slice B m.length d] 225))=W at hN1 hM1 hW ⊢
 have k0:=hN1.c0
 have k1:=hN1.c1
 have k2:=hM1.c0
 have k3:=hM1.c1
 refine(HZ.out _).mono ?_
 rintro e W1 ⟨rfl,rfl⟩
 go_wp2_with fail
 refine(HD.out _ (hA.below hW) (hB.below hW)).mono ?_
 rintro e w2 ⟨_,_,rfl,⟨P1,m1,c1,rfl,hS1,ok1,nm1,hv1⟩,⟨P2,m2,c2,rfl,hS2,ok2,nm2,hv2⟩,hb2⟩
 rw[←HQ.out.1,←HQ.out.2]
 have hb:=hW.trans (hb2.mono hW.size)
 have hWB:Below w2.heap.size w2 ((w2.alloc (.cells #[.int .i64 q1,.slice P1 m1.length c1] 225)).alloc (.cells #[.int .i64 q2,.slice P2 m2.length c2] 225)):=((Below.refl _ _).alloc (Nat.le_refl _) _).alloc (by simp) _
 have hbb:=hb.trans (hWB.mono hb.size)
 go_wp2_with fail
 refine(told_to HQ.out.1 P1 m1 c1 _ (hS1.below hWB) ok1 nm1 hv1 (Nat.le_trans (vals_len nm1 hv1 HL.out) (by decide)) (htab.below hbb)).mono ?_
 rintro e w3 ⟨rfl,hb3⟩
 go_wp2_with fail
 go_ret2
 exact⟨rfl,hbb.trans (hb3.mono hbb.size)⟩
theorem div_zero (x:Int):DoesYes 267 x 0 ⟨#[]⟩ 5:=by
 intro A B l m c d w hA hB ol om nl nm hv hv' htab
 have hZ:=isZero_any 0 true rfl
 have HZ:=Lib.hid hZ
 rw[Int.sign_zero]
 generalize x.sign=q
 clear hZ hv hv'
 go_enter Tryz.func267,Tryz.ntmps267
 go_wp2_with fail
 refine(HZ.out _).mono ?_
 rintro e W1 ⟨rfl,rfl⟩
 go_wp2_with fail
 go_ret2
 exact⟨rfl,((Below.refl _ _).alloc (Nat.le_refl _) _).alloc (by simp) _⟩
theorem mod_does (x y:Int) (hx:x.natAbs<lim) (hy:y.natAbs<lim) (h0:y≠0):DoesYes 270 x y (toldR (fr x y)) (toldE (fr x y)):=by
 intro A B l m c d w hA hB ol om nl nm hv hv' htab
 have l1:=vals_len nl hv hx
 have l2:=vals_len nm hv' hy
 have hD:=fun w1 h1 h2=>divided_any x y A B l m c d w1 h1 h2 ol om nl nm hv hv' (by omega) (by omega) h0
 have hs0:(y.sign==0)=false:=beq_eq_false_iff_ne.2 fun h=>h0 (Int.eq_zero_of_sign_eq_zero h)
 have hZ:=isZero_any y.sign false hs0
 have hl:(fr x y).natAbs<lim:=Nat.lt_of_le_of_lt (fr_abs x y h0) hy
 obtain⟨q,hq⟩:∃q,q=x.sign:=⟨_,rfl⟩
 obtain⟨q',hq'⟩:∃q,q=y.sign:=⟨_,rfl⟩
 obtain⟨q1,hq1⟩:∃q,q=(fq x y).sign:=⟨_,rfl⟩
 obtain⟨q2,hq2⟩:∃q,q=(fr x y).sign:=⟨_,rfl⟩
 rw[←hq,←hq']at hD ⊢
 rw[←hq']at hZ
 have HD:=Lib.hid hD
 have HZ:=Lib.hid hZ
 have HQ:=Lib.hid (And.intro hq1 hq2)
 have HL:=Lib.hid hl
 clear hD hZ hs0 hq hq' hq1 hq2 hx hy hl
 go_enter Tryz.func270,Tryz.ntmps270
 go_wp2_with fail
 have hN1:=(Nb.new w q A l.length c).alloc (.cells #[.int .i64 q',.slice B m.length d] 225)
 have hM1:=Nb.new (w.alloc (.cells #[.int .i64 q,.slice A l.length c] 225)) q' B m.length d
 rw[show(w.alloc (.cells #[.int .i64 q,.slice A l.length c] 225)).heap.size=w.heap.size+1 by simp]at hM1
 have hW:Below w.heap.size w ((w.alloc (.cells #[.int .i64 q,.slice A l.length c] 225)).alloc (.cells #[.int .i64 q',.slice B m.length d] 225)):=((Below.refl _ _).alloc (Nat.le_refl _) _).alloc (by simp) _
 generalize ((w.alloc (.cells #[.int .i64 q,.slice A l.length c] 225)).alloc (.cells #[.int .i64 q',.slice B m.length d] 225))=W at hN1 hM1 hW ⊢
 have k0:=hN1.c0
 have k1:=hN1.c1
 have k2:=hM1.c0
 have k3:=hM1.c1
 refine(HZ.out _).mono ?_
 rintro e W1 ⟨rfl,rfl⟩
 go_wp2_with fail
 refine(HD.out _ (hA.below hW) (hB.below hW)).mono ?_
 rintro e w2 ⟨_,_,rfl,⟨P1,m1,c1,rfl,hS1,ok1,nm1,hv1⟩,⟨P2,m2,c2,rfl,hS2,ok2,nm2,hv2⟩,hb2⟩
 rw[←HQ.out.1,←HQ.out.2]
 have hb:=hW.trans (hb2.mono hW.size)
 have hWB:Below w2.heap.size w2 ((w2.alloc (.cells #[.int .i64 q1,.slice P1 m1.length c1] 225)).alloc (.cells #[.int .i64 q2,.slice P2 m2.length c2] 225)):=((Below.refl _ _).alloc (Nat.le_refl _) _).alloc (by simp) _
 have hbb:=hb.trans (hWB.mono hb.size)
 go_wp2_with fail
 refine(told_to HQ.out.2 P2 m2 c2 _ (hS2.below hWB) ok2 nm2 hv2 (Nat.le_trans (vals_len nm2 hv2 HL.out) (by decide)) (htab.below hbb)).mono ?_
 rintro e w3 ⟨rfl,hb3⟩
 go_wp2_with fail
 go_ret2
 exact⟨rfl,hbb.trans (hb3.mono hbb.size)⟩
theorem mod_zero (x:Int):DoesYes 270 x 0 ⟨#[]⟩ 5:=by
 intro A B l m c d w hA hB ol om nl nm hv hv' htab
 have hZ:=isZero_any 0 true rfl
 have HZ:=Lib.hid hZ
 rw[Int.sign_zero]
 generalize x.sign=q
 clear hZ hv hv'
 go_enter Tryz.func270,Tryz.ntmps270
 go_wp2_with fail
 refine(HZ.out _).mono ?_
 rintro e W1 ⟨rfl,rfl⟩
 go_wp2_with fail
 go_ret2
 exact⟨rfl,((Below.refl _ _).alloc (Nat.le_refl _) _).alloc (by simp) _⟩
theorem Div_yes (x y:Int) (w:World) (hx:x.natAbs<lim) (hy:y.natAbs<lim) (h0:y≠0) (htab:Tab w):Calls Tryz.prog 239 #[.string (S x),.string (S y)] w (OpPost (fq x y) w):=by
 have hT:=together_yes 267 (enters_of Tryz.func267 (by kernel_rfl) rfl) x y _ _ w hx hy htab (div_does x y hx hy h0)
 have HT:=Lib.hid hT
 obtain⟨r,hr⟩:∃r,r=toldR (fq x y):=⟨_,rfl⟩
 obtain⟨ec,hec⟩:∃r,r=toldE (fq x y):=⟨_,rfl⟩
 rw[←hr,←hec]at HT
 have HE:=Lib.hid (And.intro hr hec)
 clear hT hr hec hx hy
 go_enter Tryz.func239,Tryz.ntmps239
 go_wp2_with fail
 refine HT.out.mono ?_
 rintro e w1 ⟨rfl,hb⟩
 go_wp2_with fail
 go_ret2
 exact⟨by rw[←HE.out.1,←HE.out.2];rfl,hb⟩
theorem Div_no (s t:ByteArray) (w:World) (hs:s.size≤maxLen) (ht:t.size≤maxLen) (h:(mayL s.data.toList&&mayL t.data.toList)=false):Calls Tryz.prog 239 #[.string s,.string t] w (ArgNo w):=by
 have hT:=fun fv=>together_no fv s t w hs ht h
 have HT:=Lib.hid hT
 clear hT h
 go_enter Tryz.func239,Tryz.ntmps239
 go_wp2_with fail
 refine(HT.out _).mono ?_
 rintro e w1 ⟨rfl,hb⟩
 go_wp2_with fail
 go_ret2
 exact⟨rfl,hb⟩
theorem Div_zero (x:Int) (w:World) (hx:x.natAbs<lim) (htab:Tab w):Calls Tryz.prog 239 #[.string (S x),.string (S 0)] w fun e w'=>e=.returned (.tuple #[.string ⟨#[]⟩,.int .i64 5])∧Below w.heap.size w w':=by
 have hT:=together_yes 267 (enters_of Tryz.func267 (by kernel_rfl) rfl) x 0 _ _ w hx (by exact lim_pos) htab (div_zero x)
 have HT:=Lib.hid hT
 clear hT hx
 go_enter Tryz.func239,Tryz.ntmps239
 go_wp2_with fail
 refine HT.out.mono ?_
 rintro e w1 ⟨rfl,hb⟩
 go_wp2_with fail
 go_ret2
 exact⟨rfl,hb⟩
theorem Mod_yes (x y:Int) (w:World) (hx:x.natAbs<lim) (hy:y.natAbs<lim) (h0:y≠0) (htab:Tab w):Calls Tryz.prog 240 #[.string (S x),.string (S y)] w (OpPost (fr x y) w):=by
 have hT:=together_yes 270 (enters_of Tryz.func270 (by kernel_rfl) rfl) x y _ _ w hx hy htab (mod_does x y hx hy h0)
 have HT:=Lib.hid hT
 obtain⟨r,hr⟩:∃r,r=toldR (fr x y):=⟨_,rfl⟩
 obtain⟨ec,hec⟩:∃r,r=toldE (fr x y):=⟨_,rfl⟩
 rw[←hr,←hec]at HT
 have HE:=Lib.hid (And.intro hr hec)
 clear hT hr hec hx hy
 go_enter Tryz.func240,Tryz.ntmps240
 go_wp2_with fail
 refine HT.out.mono ?_
 rintro e w1 ⟨rfl,hb⟩
 go_wp2_with fail
 go_ret2
 exact⟨by rw[←HE.out.1,←HE.out.2];rfl,hb⟩
theorem Mod_no (s t:ByteArray) (w:World) (hs:s.size≤maxLen) (ht:t.size≤maxLen) (h:(mayL s.data.toList&&mayL t.data.toList)=false):Calls Tryz.prog 240 #[.string s,.string t] w (ArgNo w):=by
 have hT:=fun fv=>together_no fv s t w hs ht h
 have HT:=Lib.hid hT
 clear hT h
 go_enter Tryz.func240,Tryz.ntmps240
 go_wp2_with fail
 refine(HT.out _).mono ?_
 rintro e w1 ⟨rfl,hb⟩
 go_wp2_with fail
 go_ret2
 exact⟨rfl,hb⟩
theorem Mod_zero (x:Int) (w:World) (hx:x.natAbs<lim) (htab:Tab w):Calls Tryz.prog 240 #[.string (S x),.string (S 0)] w fun e w'=>e=.returned (.tuple #[.string ⟨#[]⟩,.int .i64 5])∧Below w.heap.size w w':=by
 have hT:=together_yes 270 (enters_of Tryz.func270 (by kernel_rfl) rfl) x 0 _ _ w hx (by exact lim_pos) htab (mod_zero x)
 have HT:=Lib.hid hT
 clear hT hx
 go_enter Tryz.func240,Tryz.ntmps240
 go_wp2_with fail
 refine HT.out.mono ?_
 rintro e w1 ⟨rfl,hb⟩
 go_wp2_with fail
 go_ret2
 exact⟨rfl,hb⟩
end Go.Proofs.YtbijncndjlmmdaaGreatDoor
namespace Go.Proofs.YtbijncndjlmmdaaGreatDoor
set_option linter.unusedVariables false
set_option linter.unusedSimpArgs false
open Go.RowKit
theorem dig_lit {l:List UInt8} (ha:AllDig l) (hc:∃c r,l=c::r∧c.toNat≠48):Lib.decDigits (dval l)=l:=by
 have hne:l≠[]:=by obtain⟨c,r,rfl,_⟩:=hc;simp
 exact(decDigits_of l ha hne (.inr hc)).symm
theorem S_lit {l:List UInt8} {n:Nat} (hn:dval l=n) (ha:AllDig l) (hc:∃c r,l=c::r∧c.toNat≠48):S (n:Int)=⟨l.toArray⟩:=by
 rw[S_pos (n:=n) (by omega) (by omega),←hn,dig_lit ha hc]
theorem lim_big:10000000000000000000000≤lim:=by unfold lim;decide+kernel
theorem toldR_yes {z:Int} (h:z.natAbs<lim):toldR z=S z:=by unfold toldR;rw[if_pos h]
theorem toldE_yes {z:Int} (h:z.natAbs<lim):toldE z=0:=by unfold toldE;rw[if_pos h]
def TrueEnd (w:World) (e:Ending) (w':World):Prop:=e=.returned (.bool true)∧Below w.heap.size w w'
def MayIs (a:ByteArray) (v:Bool):Prop:=∀w,Calls Tryz.prog 55 #[.string a] w (MayPost v w)
def CmpIs (a b:ByteArray) (z:Int):Prop:=∀w,Calls Tryz.prog 245 #[.string a,.string b] w (CmpPost z w)
def SignIs (a:ByteArray) (z:Int):Prop:=∀w,Calls Tryz.prog 252 #[.string a] w (CmpPost z w)
end Go.Proofs.YtbijncndjlmmdaaGreatDoor
namespace Go.Proofs.YtbijncndjlmmdaaGreatDoor
set_option linter.unusedVariables false
set_option linter.unusedSimpArgs false
open Go.RowKit
def bI (b:Bool):Int:=if b then 1 else 0
theorem bI_cases (b:Bool):bI b=0∨bI b=1:=by cases b<;>simp[bI]
theorem bI_abs (b:Bool):(bI b).natAbs<lim:=by
 have:=lim_big
 rcases bI_cases b with h|h<;>rw[h]<;>simp<;>omega
def tlI (z:Int):Option Int×Int:=if z.natAbs<lim then(some z,0)else(none,8)
def dyI (k:Nat) (x y:Int):Option Int×Int:=
 match k with
 | 0=>tlI (x+y)
 | 1=>tlI (x-y)
 | 2=>tlI (x*y)
 | 3=>if y=0 then(none,5)else(some (fq x y),0)
 | 4=>if y=0 then(none,5)else(some (fr x y),0)
 | 5=>(some (if x≤y then x else y),0)
 | 6=>(some (if x≤y then y else x),0)
 | 7=>(some (bI (decide (x<y))),0)
 | 8=>(some (bI (decide (y<x))),0)
 | 9=>(some (bI (decide (x=y))),0)
 | 10=>(some (bI (!decide (x=y))),0)
 |_=>(none,1)
def dyO (k:Nat):Option Int→Option Int→Option Int×Int
 |some x,some y=>dyI k x y
 |_,_=>(none,1)
def kdL (l:List UInt8):Nat:=if l=[43]then 0 else if l=[45]then 1 else if l=[42]then 2 else if l=[37]then 3 else if l=[33]then 4 else if l=[38]then 5 else if l=[124]then 6 else if l=[60]then 7 else if l=[62]then 8 else if l=[61]then 9 else if l=[126]then 10 else 11
def mnI (k:Nat) (x:Int):Option Int×Int:=
 match k with
 | 0=>(some (-x),0)
 | 1=>(some (bI (decide (x=0))),0)
 | 2=>(some x.sign,0)
 |_=>(none,1)
def mnO (k:Nat):Option Int→Option Int×Int
 |some x=>mnI k x
 |none=>(none,1)
def kmL (l:List UInt8):Nat:=if l=[45]then 0 else if l=[126]then 1 else if l=[42]then 2 else 3
theorem tlI_bd {z:Int}:∀v,(tlI z).1=some v→v.natAbs<lim:=by
 intro v hv
 unfold tlI at hv
 split at hv
 · cases hv;assumption
 · cases hv
theorem dyI_bd {k:Nat} {x y:Int} (hx:x.natAbs<lim) (hy:y.natAbs<lim):∀v,(dyI k x y).1=some v→v.natAbs<lim:=by
 intro v hv
 unfold dyI at hv
 split at hv
 · exact tlI_bd v hv
 · exact tlI_bd v hv
 · exact tlI_bd v hv
 · split at hv
   · cases hv
   · cases hv;exact Nat.lt_of_le_of_lt (fq_abs x y (by assumption)) hx
 · split at hv
   · cases hv
   · cases hv;exact Nat.lt_of_le_of_lt (fr_abs x y (by assumption)) hy
 · cases hv;split<;>assumption
 · cases hv;split<;>assumption
 · cases hv;exact bI_abs _
 · cases hv;exact bI_abs _
 · cases hv;exact bI_abs _
 · cases hv;exact bI_abs _
 · cases hv
theorem mnI_bd {k:Nat} {x:Int} (hx:x.natAbs<lim):∀v,(mnI k x).1=some v→v.natAbs<lim:=by
 intro v hv
 unfold mnI at hv
 split at hv
 · cases hv;rw[Int.natAbs_neg];exact hx
 · cases hv;exact bI_abs _
 · cases hv
   have:=lim_big
   rcases Int.lt_trichotomy x 0 with h|h|h
   · rw[Int.sign_eq_neg_one_of_neg h];simp;omega
   · subst h;simp;omega
   · rw[Int.sign_eq_one_of_pos h];simp;omega
 · cases hv
theorem dyI_none {k:Nat} {x y:Int}:((dyI k x y).2=0∧(dyI k x y).1.isSome=true)∨((dyI k x y).1=none∧((dyI k x y).2=1∨(dyI k x y).2=5∨(dyI k x y).2=8)):=by
 unfold dyI tlI
 split<;>(try split)<;>simp
theorem kdL_inv {l:List UInt8} {k:Nat} (h:kdL l=k):(k=0∧l=[43])∨(k=1∧l=[45])∨(k=2∧l=[42])∨(k=3∧l=[37])∨(k=4∧l=[33])∨(k=5∧l=[38])∨(k=6∧l=[124])∨(k=7∧l=[60])∨(k=8∧l=[62])∨(k=9∧l=[61])∨(k=10∧l=[126])
 ∨(k=11∧l≠[43]∧l≠[45]∧l≠[42]∧l≠[37]∧l≠[33]∧l≠[38]∧l≠[124]∧l≠[60]∧l≠[62]∧l≠[61]∧l≠[126]):=by
 unfold kdL at h
 repeat' split at h
 all_goals(subst h;simp_all)
theorem kmL_inv {l:List UInt8} {k:Nat} (h:kmL l=k):(k=0∧l=[45])∨(k=1∧l=[126])∨(k=2∧l=[42])∨(k=3∧l≠[45]∧l≠[126]∧l≠[42]):=by
 unfold kmL at h
 repeat' split at h
 all_goals(subst h;simp_all)
end Go.Proofs.YtbijncndjlmmdaaGreatDoor
namespace Go.Proofs.YtbijncndjlmmdaaGreatDoor
set_option linter.unusedVariables false
set_option linter.unusedSimpArgs false
open Go.RowKit
theorem toList_inj {a b:ByteArray} (h:a.toList=b.toList):a=b:=by
 rw[str_tl,str_tl]at h
 obtain⟨⟨l⟩⟩:=a
 obtain⟨⟨m⟩⟩:=b
 have h:l=m:=h
 rw[h]
def dS (k:Nat):ByteArray:=[(⟨#[43]⟩:ByteArray),⟨#[45]⟩,⟨#[42]⟩,⟨#[37]⟩,⟨#[33]⟩,⟨#[38]⟩,⟨#[124]⟩,⟨#[60]⟩,⟨#[62]⟩,⟨#[61]⟩,⟨#[126]⟩].getD k ⟨#[]⟩
def dW (k:Nat):Bool:=[true,true,true,false,false,true,true,true,true,true,true].getD k false
def dU (k:Nat):ByteArray:=[(⟨#[48]⟩:ByteArray),⟨#[]⟩,⟨#[49]⟩].getD k ⟨#[]⟩
def drow:Array Value:=((List.range 11).flatMap fun k=>[Value.string (dS k),Value.bool (dW k),Value.string (dU k)]).toArray
def mrow:Array Value:=#[.string ⟨#[45]⟩,.string ⟨#[126]⟩,.string ⟨#[42]⟩]
def RowAt (w:World) (g:Nat) (r:Array Value):Prop:=∃t fr,w.heap[g]?=some (.cells r t fr)
theorem RowAt.below {w w':World} {g:Nat} {r:Array Value} (h:RowAt w g r) (hb:Below w.heap.size w w'):RowAt w' g r:=by
 obtain⟨t,fr,h⟩:=h
 exact⟨t,fr,(hb.block _ (Array.getElem?_eq_some_iff.1 h).1).trans h⟩
structure SC (W:World):Prop where
 tab:Tab W
 dy:RowAt W 0 drow
theorem SC.below {w w':World} (h:SC w) (hb:Below w.heap.size w w'):SC w':=⟨h.tab.below hb,h.dy.below hb⟩
structure SM (W:World):Prop where
 sc:SC W
 mo:RowAt W 1 mrow
theorem SM.below {w w':World} (h:SM w) (hb:Below w.heap.size w w'):SM w':=⟨h.sc.below hb,h.mo.below hb⟩
def DyIs (op a b d:ByteArray) (ec:Int):Prop:=∀w,SC w→Calls Tryz.prog 189 #[.string op,.string a,.string b] w fun e w'=>e=.returned (.tuple #[.string d,.int .i64 ec])∧Below w.heap.size w w'
def MnIs (op a d:ByteArray) (ec:Int):Prop:=∀w,SC w→Calls Tryz.prog 197 #[.string op,.string a] w fun e w'=>e=.returned (.tuple #[.string d,.int .i64 ec])∧Below w.heap.size w w'
def UnIs (op u:ByteArray) (b:Bool):Prop:=∀w,SC w→Calls Tryz.prog 335 #[.string op] w fun e w'=>e=.returned (.tuple #[.string u,.bool b])∧Below w.heap.size w w'
def DsIs:Prop:=∀w,SC w→Calls Tryz.prog 107 #[] w fun e w'=>e=.returned (.string ⟨#[43,45,42,37,33,38,124,60,62,61,126]⟩)∧Below w.heap.size w w'
def MsIs:Prop:=∀w,SM w→Calls Tryz.prog 119 #[] w fun e w'=>e=.returned (.string ⟨#[45,126,42]⟩)∧Below w.heap.size w w'
def DyOk:Prop:=∀{op s t:ByteArray} {o p:Option Int},op.size≤maxLen→Is s o→Is t p→DyIs op s t (T (dyO (kdL op.data.toList) o p).1) (dyO (kdL op.data.toList) o p).2
def MnOk:Prop:=∀{op s:ByteArray} {o:Option Int},op.size≤maxLen→Is s o→MnIs op s (T (mnO (kmL op.data.toList) o).1) (mnO (kmL op.data.toList) o).2
def UnOk:Prop:=∀{op:ByteArray},op.size≤maxLen→UnIs op (if op.data.toList=[43]then⟨#[48]⟩else if op.data.toList=[42]then⟨#[49]⟩else⟨#[]⟩) (decide (op.data.toList=[43])||decide (op.data.toList=[42]))
theorem S_1:S 1=⟨#[49]⟩:=S_lit (l:=[49]) (n:=1) rfl (by unfold AllDig;decide) ⟨_,_,rfl,by decide⟩
theorem S_0:S 0=⟨#[48]⟩:=by
 rw[S_pos (n:=0) rfl (by decide),decDigits_small (by decide)]
 rfl
end Go.Proofs.YtbijncndjlmmdaaGreatDoor
namespace Go.Proofs.YtbijncndjlmmdaaGreatDoor
set_option linter.unusedVariables false
set_option linter.unusedSimpArgs false
open Go.RowKit
def Sg (W:World) (g:Nat) (a:ByteArray) (b:Bool) (c:ByteArray):Prop:=W.heap[g]?=some (.cells #[.string a,.bool b,.string c] 130 (0,0))
section
variable {W W':World} {g:Nat} {a c:ByteArray} {b:Bool}
theorem Sg.lt (h:Sg W g a b c):g<W.heap.size:=(Array.getElem?_eq_some_iff.1 h).1
theorem Sg.c0 (h:Sg W g a b c):W.cell? ⟨g,0,none⟩=some (.string a):=by rw[cell_of_row _ _ 0 _ _ _ h];rfl
theorem Sg.c1 (h:Sg W g a b c):W.cell? ⟨g,1,none⟩=some (.bool b):=by rw[cell_of_row _ _ 1 _ _ _ h];rfl
theorem Sg.c2 (h:Sg W g a b c):W.cell? ⟨g,2,none⟩=some (.string c):=by rw[cell_of_row _ _ 2 _ _ _ h];rfl
theorem Sg.fz (h:Sg W g a b c) (i:Nat):W.frozen? ⟨g,i,none⟩=false:=frozen_of_row _ _ i _ _ h
theorem Sg.alloc (h:Sg W g a b c) (o:Obj):Sg (W.alloc o) g a b c:=(Below.heap_alloc W o g h.lt).trans h
theorem Sg.new (W:World) (a:ByteArray) (b:Bool) (c:ByteArray):Sg (W.alloc (.cells #[.string a,.bool b,.string c] 130)) W.heap.size a b c:=heap_alloc_new W _
theorem Sg.set (h:Sg W g a b c) (a':ByteArray) (b':Bool) (c':ByteArray):Sg (((W.setCell ⟨g,0,none⟩ (.string a')).setCell ⟨g,1,none⟩ (.bool b')).setCell ⟨g,2,none⟩ (.string c')) g a' b' c':=by
 unfold Sg at*
 simp[World.setCell,Array.getElem?_modify,h]
end
theorem dix (W:World) (k:Nat) (hk:k<11):(Instr.index 131 (.agg drow) (.int .i64 k)).run Tryz.prog W=.ok (.agg #[.string (dS k),.bool (dW k),.string (dU k)]) W:=by
 obtain rfl|rfl|rfl|rfl|rfl|rfl|rfl|rfl|rfl|rfl|rfl:k=0∨k=1∨k=2∨k=3∨k=4∨k=5∨k=6∨k=7∨k=8∨k=9∨k=10:=by omega
 all_goals kernel_rfl
theorem dS_kd (k:Nat) (hk:k<11):kdL (dS k).data.toList=k:=by
 obtain rfl|rfl|rfl|rfl|rfl|rfl|rfl|rfl|rfl|rfl|rfl:k=0∨k=1∨k=2∨k=3∨k=4∨k=5∨k=6∨k=7∨k=8∨k=9∨k=10:=by omega
 all_goals decide
theorem kd_le (l:List UInt8):kdL l≤11:=by
 unfold kdL
 repeat' split
 all_goals omega
theorem dS_of {op:ByteArray} {k:Nat} (h:kdL op.data.toList=k) (hk:k<11):dS k=op:=by
 rcases kdL_inv h with⟨rfl,e⟩|⟨rfl,e⟩|⟨rfl,e⟩|⟨rfl,e⟩|⟨rfl,e⟩|⟨rfl,e⟩|⟨rfl,e⟩|⟨rfl,e⟩|⟨rfl,e⟩|⟨rfl,e⟩|⟨rfl,e⟩|⟨rfl,e,_⟩
 all_goals first|exact absurd hk (by decide)|(obtain⟨⟨d⟩⟩:=op;have e:d=_:=e;subst e;rfl)
def KnIs (op:ByteArray) (k:Nat):Prop:=∀w,SC w→Calls Tryz.prog 336 #[.string op] w fun e w'=>e=.returned (.agg #[.string (dS k),.bool (dW k),.string (dU k)])∧Below w.heap.size w w'
theorem known_any (op:ByteArray):KnIs op (kdL op.data.toList):=by
 intro W hw
 obtain⟨k0,hk0⟩:∃k0,kdL op.data.toList=k0:=⟨_,rfl⟩
 rw[hk0]
 have HK:=Lib.hid hk0
 obtain⟨tt,fr,hg⟩:=hw.dy
 have hR:=Sg.new W ⟨#[]⟩ false ⟨#[]⟩
 have hB:Below W.heap.size W (W.alloc (.cells #[.string ⟨#[]⟩,.bool false,.string ⟨#[]⟩] 130)):=(Below.refl _ _).alloc (Nat.le_refl _) _
 have hgl:=(Array.getElem?_eq_some_iff.1 hg).1
 have hg1:=(hB.block _ hgl).trans hg
 have HR:=Lib.hid hR
 have HB:=Lib.hid hB
 obtain⟨dr,hdr⟩:∃dr,drow=dr:=⟨_,rfl⟩
 have HI:Hid (∀(W:World) (k:Nat),k<11→(Instr.index 131 (.agg dr) (.int .i64 k)).run Tryz.prog W=.ok (.agg #[.string (dS k),.bool (dW k),.string (dU k)]) W):=Lib.hid (by rw[←hdr];exact dix)
 have hds:(Tryz.prog.info? 131).map (·.size)=some dr.size:=by rw[←hdr];kernel_rfl
 rw[hdr]at hg1
 have hz:=Tryz.zeroValue130
 clear hk0 hg hw hdr hR hB hgl
 go_enter Tryz.func336,Tryz.ntmps336
 go_wp2_with (refine wpList_load_row rfl 131 _ rfl 0 rfl tt dr fr _ hg1 Tryz.underlying131 rfl hds ?_)
 go_loopw [6] (fun iv wr=>∃k:Nat,iv=.int .i64 k∧k≤11∧Hid (∀j,j<k→dS j≠op)∧Sg wr W.heap.size ⟨#[]⟩ false ⟨#[]⟩∧Below W.heap.size W wr) (fun iv _=>11-(intOf iv).toNat)
 case atStart=>exact⟨0,rfl,by omega,Lib.hid (fun j hj=>absurd hj (by omega)),HR.out,HB.out⟩
 case round=>
  clear HR HB hg1
  obtain⟨k,rfl,hk,hno,hR,hB⟩:=hrel
  by_cases hlt:k<11
  · have hix:=fun W=>HI.out W k hlt
    have e2:(k:Int)<11:=by omega
    by_cases he:dS k=op
    · have hkk:k=k0:=by rw[←HK.out,←he];exact(dS_kd k hlt).symm
      have HKK:=Lib.hid hkk
      have hgS:(dS k).toList=op.toList:=by rw[he]
      obtain⟨vS,hvS⟩:∃v,dS k=v:=⟨_,rfl⟩
      obtain⟨vW,hvW⟩:∃v,dW k=v:=⟨_,rfl⟩
      obtain⟨vU,hvU⟩:∃v,dU k=v:=⟨_,rfl⟩
      rw[hvS,hvW,hvU]at hix
      rw[hvS]at hgS
      have HV:=Lib.hid (show dS k=vS∧dW k=vW∧dU k=vU from⟨hvS,hvW,hvU⟩)
      clear hvS hvW hvU he hkk hno
      have hX:=Sg.new wr vS vW vU
      have hRX:=hR.alloc (.cells #[.string vS,.bool vW,.string vU] 130)
      have hBX:=hB.alloc hB.size (.cells #[.string vS,.bool vW,.string vU] 130)
      have x0:=hX.c0
      have x1:=hX.c1
      have x2:=hX.c2
      have z0:=hRX.c0
      have z1:=hRX.c1
      have z2:=hRX.c2
      have f0:=hRX.fz 0
      have f1:=hRX.fz 1
      have f2:=hRX.fz 2
      have hRS:=hRX.set vS vW vU
      have HRS:=Lib.hid hRS
      have HBS:=Lib.hid (((hBX.setCell (p:=⟨W.heap.size,0,none⟩) (Nat.le_refl _) (.string vS)).setCell (p:=⟨W.heap.size,1,none⟩) (Nat.le_refl _) (.bool vW)).setCell (p:=⟨W.heap.size,2,none⟩) (Nat.le_refl _) (.string vU))
      clear hRS hBX hRX hX hR hB
      go_wp2_with fail
      obtain⟨g1,g2,g3⟩:=HV.out
      generalize World.setCell _ _ _=w9 at*
      refine bodyPost_ret (results_cell_row (by rfl) _ _ W.heap.size _ _ _ _ rfl HRS.out Tryz.underlying130 rfl (by kernel_rfl)) rfl ?_
      refine⟨?_,HBS.out⟩
      rw[←HKK.out,g1,g2,g3]
    · have hgS:((dS k).toList==op.toList)=false:=beq_eq_false_iff_ne.2 fun e=>he (toList_inj e)
      have hno':=Lib.hid (show∀j,j<k+1→dS j≠op from fun j hj=>by
       rcases Nat.lt_or_ge j k with h|h
       · exact hno.out j h
       · obtain rfl:j=k:=by omega
         exact he)
      obtain⟨vS,hvS⟩:∃v,dS k=v:=⟨_,rfl⟩
      obtain⟨vW,hvW⟩:∃v,dW k=v:=⟨_,rfl⟩
      obtain⟨vU,hvU⟩:∃v,dU k=v:=⟨_,rfl⟩
      rw[hvS,hvW,hvU]at hix
      rw[hvS]at hgS
      clear hvS hvW hvU he hno
      have hX:=Sg.new wr vS vW vU
      have hRX:=hR.alloc (.cells #[.string vS,.bool vW,.string vU] 130)
      have hBX:=hB.alloc hB.size (.cells #[.string vS,.bool vW,.string vU] 130)
      have x0:=hX.c0
      have x1:=hX.c1
      have x2:=hX.c2
      have HRX:=Lib.hid hRX
      have HBX:=Lib.hid hBX
      clear hX hRX hBX hR hB
      go_wp2_with fail
      go_roundw
      case rel=>exact⟨k+1,by go_num,by omega,hno',HRX.out,HBX.out⟩
      case measure=>simp[intOf];omega
  · obtain rfl:k=11:=by omega
    have h11:k0=11:=by
     have h1:=kd_le op.data.toList
     rw[HK.out]at h1
     rcases Nat.lt_or_ge k0 11 with h|h
     · exact absurd (dS_of HK.out h) (hno.out k0 h)
     · omega
    have H11:=Lib.hid h11
    have hRS:=hR.set ⟨#[]⟩ false ⟨#[]⟩
    have HRS:=Lib.hid hRS
    have HBS:=Lib.hid (((hB.setCell (p:=⟨W.heap.size,0,none⟩) (Nat.le_refl _) (.string ⟨#[]⟩)).setCell (p:=⟨W.heap.size,1,none⟩) (Nat.le_refl _) (.bool false)).setCell (p:=⟨W.heap.size,2,none⟩) (Nat.le_refl _) (.string ⟨#[]⟩))
    have z0:=hR.c0
    have z1:=hR.c1
    have z2:=hR.c2
    have f0:=hR.fz 0
    have f1:=hR.fz 1
    have f2:=hR.fz 2
    clear hRS hR hB h11 hno
    go_wp2_with fail
    refine bodyPost_ret (results_cell_row (by rfl) _ _ W.heap.size _ _ _ _ rfl HRS.out Tryz.underlying130 rfl (by kernel_rfl)) rfl ?_
    refine⟨?_,HBS.out⟩
    rw[H11.out]
    rfl
theorem unit_is (op:ByteArray) (k:Nat) (HK:KnIs op k) (u:ByteArray) (hu:dU k=u) (b:Bool) (hb:(b=true∧¬u.toList=[])∨(b=false∧u.toList=[])):UnIs op u b:=by
 intro w hw
 have KK:=Lib.hid HK
 obtain⟨vS,hvS⟩:∃v,dS k=v:=⟨_,rfl⟩
 obtain⟨vW,hvW⟩:∃v,dW k=v:=⟨_,rfl⟩
 have hf:∀W:World,(Instr.field 130 (.agg #[.string vS,.bool vW,.string u]) 2).run Tryz.prog W=.ok (.string u) W:=fun W=>by kernel_rfl
 unfold KnIs at KK
 rw[hvS,hvW,hu]at KK
 clear HK hvS hvW hu
 rcases hb with⟨rfl,hb⟩|⟨rfl,hb⟩
 · replace hb:u.toList.isEmpty=false:=by cases h:u.toList<;>simp_all
   go_enter Tryz.func335,Tryz.ntmps335
   go_wp2_with fail
   refine(KK.out _ hw).mono ?_
   rintro e w1 ⟨rfl,hb⟩
   go_wp2_with fail
   go_ret2
   exact⟨rfl,hb⟩
 · replace hb:u.toList.isEmpty=true:=by rw[hb];rfl
   go_enter Tryz.func335,Tryz.ntmps335
   go_wp2_with fail
   refine(KK.out _ hw).mono ?_
   rintro e w1 ⟨rfl,hb⟩
   go_wp2_with fail
   go_ret2
   exact⟨rfl,hb⟩
theorem un_ok:UnOk:=by
 intro op _
 obtain⟨k,hk⟩:∃k,kdL op.data.toList=k:=⟨_,rfl⟩
 have h:=unit_is op _ (known_any op)
 rw[hk]at h
 rcases kdL_inv hk with⟨rfl,e⟩|⟨rfl,e⟩|⟨rfl,e⟩|⟨rfl,e⟩|⟨rfl,e⟩|⟨rfl,e⟩|⟨rfl,e⟩|⟨rfl,e⟩|⟨rfl,e⟩|⟨rfl,e⟩|⟨rfl,e⟩|⟨rfl,h0,h1,h2,_⟩
 · rw[e];exact h ⟨#[48]⟩ rfl true (.inl ⟨rfl,by rw[str_tl];decide⟩)
 · rw[e];exact h ⟨#[]⟩ rfl false (.inr ⟨rfl,by rw[str_tl]⟩)
 · rw[e];exact h ⟨#[49]⟩ rfl true (.inl ⟨rfl,by rw[str_tl];decide⟩)
 · rw[e];exact h ⟨#[]⟩ rfl false (.inr ⟨rfl,by rw[str_tl]⟩)
 · rw[e];exact h ⟨#[]⟩ rfl false (.inr ⟨rfl,by rw[str_tl]⟩)
 · rw[e];exact h ⟨#[]⟩ rfl false (.inr ⟨rfl,by rw[str_tl]⟩)
 · rw[e];exact h ⟨#[]⟩ rfl false (.inr ⟨rfl,by rw[str_tl]⟩)
 · rw[e];exact h ⟨#[]⟩ rfl false (.inr ⟨rfl,by rw[str_tl]⟩)
 · rw[e];exact h ⟨#[]⟩ rfl false (.inr ⟨rfl,by rw[str_tl]⟩)
 · rw[e];exact h ⟨#[]⟩ rfl false (.inr ⟨rfl,by rw[str_tl]⟩)
 · rw[e];exact h ⟨#[]⟩ rfl false (.inr ⟨rfl,by rw[str_tl]⟩)
 · rw[if_neg h0,if_neg h2,decide_eq_false h0,decide_eq_false h2]
   exact h ⟨#[]⟩ rfl false (.inr ⟨rfl,by rw[str_tl]⟩)
def dC (k:Nat):ByteArray:=⟨(([43,45,42,37,33,38,124,60,62,61,126]:List UInt8).take k).toArray⟩
theorem dC_step {k:Nat} (hk:k<11):dC k++dS k=dC (k+1)∧(dC k).size=k∧(dS k).size=1:=by
 obtain rfl|rfl|rfl|rfl|rfl|rfl|rfl|rfl|rfl|rfl|rfl:k=0∨k=1∨k=2∨k=3∨k=4∨k=5∨k=6∨k=7∨k=8∨k=9∨k=10:=by omega
 all_goals exact⟨by decide,by decide,by decide⟩
theorem ds_ok:DsIs:=by
 intro W hw
 obtain⟨tt,fr,hg1⟩:=hw.dy
 obtain⟨dr,hdr⟩:∃dr,drow=dr:=⟨_,rfl⟩
 have HI:Hid (∀(W:World) (k:Nat),k<11→(Instr.index 131 (.agg dr) (.int .i64 k)).run Tryz.prog W=.ok (.agg #[.string (dS k),.bool (dW k),.string (dU k)]) W):=Lib.hid (by rw[←hdr];exact dix)
 have hds:(Tryz.prog.info? 131).map (·.size)=some dr.size:=by rw[←hdr];kernel_rfl
 rw[hdr]at hg1
 have hz:=Tryz.zeroValue130
 clear hw hdr
 go_enter Tryz.func107,Tryz.ntmps107
 go_wp2_with (refine wpList_load_row rfl 131 _ rfl 0 rfl tt dr fr _ hg1 Tryz.underlying131 rfl hds ?_)
 go_loopw [1,5] (fun sv iv wr=>∃k:Nat,iv=.int .i64 k∧k≤11∧sv=.string (dC k)∧Below W.heap.size W wr) (fun _ iv _=>11-(intOf iv).toNat)
 case atStart=>exact⟨0,rfl,by omega,rfl,Below.refl _ _⟩
 case round=>
  clear hg1
  obtain⟨k,rfl,hk,rfl,hB⟩:=hrel
  by_cases hlt:k<11
  · have hix:=fun W=>HI.out W k hlt
    have e2:(k:Int)<11:=by omega
    obtain⟨hc1,hc2,hc3⟩:=dC_step hlt
    obtain⟨vS,hvS⟩:∃v,dS k=v:=⟨_,rfl⟩
    obtain⟨vW,hvW⟩:∃v,dW k=v:=⟨_,rfl⟩
    obtain⟨vU,hvU⟩:∃v,dU k=v:=⟨_,rfl⟩
    obtain⟨vC,hvC⟩:∃v,dC k=v:=⟨_,rfl⟩
    rw[hvS,hvW,hvU]at hix
    rw[hvS,hvC]at hc1
    rw[hvC]at hc2
    rw[hvS]at hc3
    rw[hvC]
    have hs:vC.size+vS.size≤12:=by omega
    have hs1:vC.size≤12:=by omega
    have hs2:vS.size≤12:=by omega
    have HC:=Lib.hid hc1
    clear hvS hvW hvU hvC hc1 hc2 hc3
    have hX:=Sg.new wr vS vW vU
    have hBX:=hB.alloc hB.size (.cells #[.string vS,.bool vW,.string vU] 130)
    have x0:=hX.c0
    have x1:=hX.c1
    have x2:=hX.c2
    have HBX:=Lib.hid hBX
    clear hX hBX hB
    go_wp2_with fail
    go_roundw
    case rel=>exact⟨k+1,by go_num,by omega,by rw[HC.out],HBX.out⟩
    case measure=>simp[intOf];omega
  · obtain rfl:k=11:=by omega
    go_wp2_with fail
    go_ret
    exact⟨rfl,hB⟩
def mS (k:Nat):ByteArray:=[(⟨#[45]⟩:ByteArray),⟨#[126]⟩,⟨#[42]⟩].getD k ⟨#[]⟩
def mC (k:Nat):ByteArray:=⟨(([45,126,42]:List UInt8).take k).toArray⟩
theorem mC_step {k:Nat} (hk:k<3):mC k++mS k=mC (k+1)∧(mC k).size=k∧(mS k).size=1:=by
 obtain rfl|rfl|rfl:k=0∨k=1∨k=2:=by omega
 all_goals exact⟨by decide,by decide,by decide⟩
theorem mix (W:World) (k:Nat) (hk:k<3):(Instr.index 137 (.agg mrow) (.int .i64 k)).run Tryz.prog W=.ok (.string (mS k)) W:=by
 obtain rfl|rfl|rfl:k=0∨k=1∨k=2:=by omega
 all_goals kernel_rfl
theorem ms_ok:MsIs:=by
 intro W hw
 obtain⟨tt,fr,hg1⟩:=hw.mo
 obtain⟨dr,hdr⟩:∃dr,mrow=dr:=⟨_,rfl⟩
 have HI:Hid (∀(W:World) (k:Nat),k<3→(Instr.index 137 (.agg dr) (.int .i64 k)).run Tryz.prog W=.ok (.string (mS k)) W):=Lib.hid (by rw[←hdr];exact mix)
 have hds:(Tryz.prog.info? 137).map (·.size)=some dr.size:=by rw[←hdr];kernel_rfl
 rw[hdr]at hg1
 clear hw hdr
 go_enter Tryz.func119,Tryz.ntmps119
 go_wp2_with (refine wpList_load_row rfl 137 _ rfl 1 rfl tt dr fr _ hg1 Tryz.underlying137 rfl hds ?_)
 go_loopw [1,5] (fun sv iv wr=>∃k:Nat,iv=.int .i64 k∧k≤3∧sv=.string (mC k)∧wr=W) (fun _ iv _=>3-(intOf iv).toNat)
 case atStart=>exact⟨0,rfl,by omega,rfl,rfl⟩
 case round=>
  obtain⟨k,rfl,hk,rfl,rfl⟩:=hrel
  by_cases hlt:k<3
  · have hix:=fun W=>HI.out W k hlt
    have e2:(k:Int)<3:=by omega
    obtain⟨hc1,hc2,hc3⟩:=mC_step hlt
    obtain⟨vS,hvS⟩:∃v,mS k=v:=⟨_,rfl⟩
    obtain⟨vC,hvC⟩:∃v,mC k=v:=⟨_,rfl⟩
    rw[hvS]at hix
    rw[hvS,hvC]at hc1
    rw[hvC]at hc2
    rw[hvS]at hc3
    rw[hvC]
    have hs:vC.size+vS.size≤12:=by omega
    have hs1:vC.size≤12:=by omega
    have hs2:vS.size≤12:=by omega
    have HC:=Lib.hid hc1
    clear hvS hvC hc1 hc2 hc3
    go_wp2_with fail
    go_roundw
    case rel=>exact⟨k+1,by go_num,by omega,by rw[HC.out],by first|rfl|trivial⟩
    case measure=>simp[intOf];omega
  · obtain rfl:k=3:=by omega
    go_wp2_with fail
    go_ret
    exact⟨rfl,Below.refl _ _⟩
end Go.Proofs.YtbijncndjlmmdaaGreatDoor

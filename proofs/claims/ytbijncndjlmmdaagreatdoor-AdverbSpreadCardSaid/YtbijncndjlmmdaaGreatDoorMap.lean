import Derived.Test.YtbijncndjlmmdaaGreatDoorProg
import Derived.Test.YtbijncndjlmmdaaGreatDoorMae
import Derived.Test.YtbijncndjlmmdaaGreatDoorMao
import Derived.Lib.ItoaNum
import Derived.WalkKit
import Derived.WalkSpells
import Derived.WalkLawsBesides
import Derived.Lib.Hide
import Derived.BigQuiet
import Derived.Deep.QuietTactic
import Derived.Deep.OwnRows
import Derived.Laws.CopyOwn
import Derived.Lib.Walk
import Derived.Lib.ItoaWalk
import Derived.Lib.ItoaMem
import Derived.Lib.AppendIntMem
import Derived.Lib.Slices
import Derived.BigCall
import Derived.BigGuard
import Derived.Deep.RegionHeld3
import Derived.Lib.AtoiErrMem
import Derived.Laws.Rows
import Derived.Test.YtbijncndjlmmdaaGreatDoorMab
import Derived.Test.YtbijncndjlmmdaaGreatDoorMag
import Derived.Test.YtbijncndjlmmdaaGreatDoorMaa
import Derived.Test.YtbijncndjlmmdaaGreatDoorMac
import Derived.Test.YtbijncndjlmmdaaGreatDoorMaf
import Derived.Test.YtbijncndjlmmdaaGreatDoorMaj
import Derived.Test.YtbijncndjlmmdaaGreatDoorMah
import Derived.Maps.AppendAt
import Derived.Laws.OwnMore
import Derived.Deep.RegionLaw
set_option maxHeartbeats 800000
set_option maxRecDepth 10000
namespace Go.Proofs.YtbijncndjlmmdaaGreatDoor
set_option linter.unusedVariables false
set_option linter.unusedSimpArgs false
section
end
section
open Go.RowKit
end
section
open Go.RowKit
end
section
open Go.RowKit
end
section
open Go.RowKit
end
section
open Go.RowKit
open Go.RowKit
open Go.RowKit
end
section
open Go.Lib
end
section
open Go.RowKit
end
section
open Go.RowKit Go.Sort
end
section
open Go.RowKit
open Go.RowKit
end
section
open Go.RowKit
end
section
open Go.RowKit
end
section
open Go.RowKit
section
variable {W W':World} {g:Nat} {s:Int} {P:Option Addr} {n c:Nat}
end
section
variable {w W W':World} {s0 s1 s2 s3:Int} {P0 P1 P2 P3:Option Addr} {n0 n1 n2 n3 c0 c1 c2 c3:Nat}
end
end
section
open Go.RowKit
open Go.RowKit
end
section
open Go.RowKit
end
section
open Go.RowKit
end
section
open Go.RowKit
end
section
open Go.RowKit
end
section
open Go.RowKit
theorem fold_ge:∀(l:List UInt8) (a:Nat),a≤l.foldl (fun a c=>a*10+(c.toNat-48)) a:=by
 intro l
 induction l with
 |nil=>intro a;exact Nat.le_refl _
 |cons c r ih=>
  intro a
  have:=ih (a*10+(c.toNat-48))
  simp only[List.foldl_cons]
  omega
theorem parse_digs (M:Nat) (hM:M≤18446744073709551615):∀(l:List UInt8) (a:Nat),AllDig l→l.foldl (fun a c=>a*10+(c.toNat-48)) a≤M→Lib.parseUintM M a l=.ok (l.foldl (fun a c=>a*10+(c.toNat-48)) a):=by
 intro l
 induction l with
 |nil=>intro a _ _;rfl
 |cons c r ih=>
  intro a hd hm
  simp only[List.foldl_cons]at hm ⊢
  have h1:=hd c (by simp)
  have h2:=fold_ge r (a*10+(c.toNat-48))
  rw[Lib.parseUintM,if_pos h1,if_neg (by omega),if_neg (by omega)]
  exact ih _ (fun x hx=>hd x (by simp[hx])) hm
theorem parse_u (n:Nat) (hn:n<18446744073709551616):Lib.parseUintB 64 (Lib.decDigits n)=.ok n:=by
 have h:=decDigits_all n
 unfold Lib.parseUintB
 rw[if_neg (decDigits_ne n)]
 have hv:(Lib.decDigits n).foldl (fun a c=>a*10+(c.toNat-48)) 0=n:=h.2
 rw[parse_digs (2^64-1) (by decide) _ 0 h.1 (by rw[hv];omega),hv]
theorem parse_neg (n:Nat) (h:n≤9223372036854775808):Lib.parseIntB 64 (45::Lib.decDigits n)=.ok (-(n:Int)):=by
 have hu:=parse_u n (by omega)
 unfold Lib.parseIntB
 simp only[show(45:UInt8).toNat=45 from rfl,hu,or_true,if_true,not_true_eq_false,false_and,if_false,true_and]
 rw[if_neg (by omega)]
theorem parse_pos (n:Nat) (h:n≤9223372036854775807):Lib.parseIntB 64 (Lib.decDigits n)=.ok (n:Int):=by
 have hu:=parse_u n (by omega)
 have hd:=decDigits_dig n
 cases e:Lib.decDigits n with
 |nil=>exact absurd e (decDigits_ne n)
 |cons c r=>
  rw[e]at hu hd
  have hc:=hd c (by simp)
  unfold Lib.parseIntB
  have e1:¬c.toNat=43:=by omega
  have e2:¬c.toNat=45:=by omega
  simp only[e2,e1,or_self,if_false,not_false_eq_true,true_and,false_and]
  rw[hu]
  exact if_neg (by omega)
theorem parse_i (x:Int) (h0: -9223372036854775808≤x) (h1:x≤9223372036854775807):Lib.parseIntB 64 (S x).data.toList=.ok x:=by
 rw[S_toList]
 rcases Int.lt_or_le x 0 with h|h
 · rw[itoa_neg h,parse_neg _ (by omega)]
   exact congrArg _ (by omega)
 · rw[itoa_pos h,parse_pos _ (by omega)]
   exact congrArg _ (by omega)
theorem lim_i64 {x:Int} (h0: -9223372036854775808≤x) (h1:x≤9223372036854775807):x.natAbs<lim:=by
 have hL:=lim_big
 omega
def IntIs (a:ByteArray) (n:Int) (v:Bool):Prop:=∀w,Calls Tryz.prog 211 #[.string a] w fun e w'=>e=.returned (.tuple #[.int .i64 n,.bool v])∧Below w.heap.size w w'
theorem parse_call (x:Int) (h0: -9223372036854775808≤x) (h1:x≤9223372036854775807) (w:World):
 Calls Tryz.prog 235 #[.string (S x),.int .i64 10,.int .i64 64] w fun e w'=>e=.returned (.tuple #[.int .i64 x,.nilIface])∧Below w.heap.size w w':=by
 refine(Tryz.strconv_ParseInt_10_at64_ok (S x) (Nat.le_trans (S_size (lim_i64 h0 h1)) (by decide)) x (parse_i x h0 h1) w).mono ?_
 rintro e w' ⟨rfl,h⟩
 refine⟨rfl,?_⟩
 rcases h with rfl|⟨t,rfl⟩
 · exact Below.refl _ _
 · exact Lib.bytesWorld_below _ _ _
theorem Int_ok (x:Int) (h0: -9223372036854775808≤x) (h1:x≤9223372036854775807):IntIs (S x) x true:=by
 intro w
 have hM:MayIs (S x) true:=fun w=>may_yes (lim_i64 h0 h1) w
 have hP:=parse_call x h0 h1
 have KM:=Lib.hid hM
 have KP:=Lib.hid hP
 generalize S x=s at KM KP ⊢
 clear hM hP
 go_enter Tryz.func211,Tryz.ntmps211
 go_wp2_with fail
 refine(KM.out _).mono ?_
 rintro e w1 ⟨rfl,rfl⟩
 go_wp2_with fail
 refine(KP.out _).mono ?_
 rintro e w2 ⟨rfl,hb⟩
 go_wp2_with fail
 go_ret2
 exact⟨rfl,hb⟩
end
section
open Go.RowKit
end
section
open Go.RowKit
def I64 (x:Int):Prop:= -9223372036854775808≤x∧x≤9223372036854775807
instance (x:Int):Decidable (I64 x):=by unfold I64;infer_instance
end
section
open Go.RowKit
def IntW (s:ByteArray) (x:Int) (v:Bool) (W:World):Prop:=Calls Tryz.prog 211 #[.string s] W fun e W'=>e=.returned (.tuple #[.int .i64 x,.bool v])∧Below W.heap.size W W'
end
section
open Go.RowKit
theorem parse_over (M:Nat):∀(l:List UInt8) (a:Nat),AllDig l→a≤M→M<l.foldl (fun a c=>a*10+(c.toNat-48)) a→Lib.parseUintM M a l=.range:=by
 intro l
 induction l with
 |nil=>intro a _ h0 h1;exact absurd h1 (by simp only[List.foldl_nil];omega)
 |cons c r ih=>
  intro a hd h0 h1
  simp only[List.foldl_cons]at h1
  have hc:=hd c (by simp)
  rw[Lib.parseUintM,if_pos hc]
  by_cases c1:1844674407370955162≤a
  · rw[if_pos c1]
  · rw[if_neg c1]
    by_cases c2:M<a*10+(c.toNat-48)
    · rw[if_pos c2]
    · rw[if_neg c2]
      exact ih _ (fun x hx=>hd x (by simp[hx])) (by omega) h1
theorem parse_u_over (n:Nat) (hn:18446744073709551616≤n):Lib.parseUintB 64 (Lib.decDigits n)=.range:=by
 have h:=decDigits_all n
 unfold Lib.parseUintB
 rw[if_neg (decDigits_ne n)]
 have hv:(Lib.decDigits n).foldl (fun a c=>a*10+(c.toNat-48)) 0=n:=h.2
 exact parse_over _ _ 0 h.1 (Nat.zero_le _) (by rw[hv];omega)
theorem parse_neg_over (n:Nat) (h:9223372036854775808<n):Lib.parseIntB 64 (45::Lib.decDigits n)=.range:=by
 unfold Lib.parseIntB
 by_cases h2:n<18446744073709551616
 · have hu:=parse_u n h2
   simp only[show(45:UInt8).toNat=45 from rfl,hu,or_true,if_true,not_true_eq_false,false_and,if_false,true_and]
   rw[if_pos (by omega)]
 · have hu:=parse_u_over n (by omega)
   simp only[show(45:UInt8).toNat=45 from rfl,hu,or_true,if_true]
theorem parse_pos_over (n:Nat) (h:9223372036854775808≤n):Lib.parseIntB 64 (Lib.decDigits n)=.range:=by
 have hd:=decDigits_dig n
 by_cases h2:n<18446744073709551616
 · have hu:=parse_u n h2
   cases e:Lib.decDigits n with
   |nil=>exact absurd e (decDigits_ne n)
   |cons c r=>
    rw[e]at hu hd
    have hc:=hd c (by simp)
    unfold Lib.parseIntB
    have e1:¬c.toNat=43:=by omega
    have e2:¬c.toNat=45:=by omega
    simp only[e2,e1,or_self,if_false,not_false_eq_true,true_and,false_and]
    rw[hu]
    exact if_pos (by omega)
 · have hu:=parse_u_over n (by omega)
   cases e:Lib.decDigits n with
   |nil=>exact absurd e (decDigits_ne n)
   |cons c r=>
    rw[e]at hu hd
    have hc:=hd c (by simp)
    unfold Lib.parseIntB
    have e1:¬c.toNat=43:=by omega
    have e2:¬c.toNat=45:=by omega
    simp only[e2,e1,or_self,if_false,not_false_eq_true,true_and,false_and]
    rw[hu]
theorem parse_i_over (x:Int) (h:¬I64 x):Lib.parseIntB 64 (S x).data.toList=.range:=by
 unfold I64 at h
 rw[S_toList]
 rcases Int.lt_or_le x 0 with h0|h0
 · rw[itoa_neg h0,parse_neg_over _ (by omega)]
 · rw[itoa_pos h0,parse_pos_over _ (by omega)]
def ErrT (W:World):Prop:=∃ev,W.cell? ⟨7,0,none⟩=some ev∧(ev=.nilIface∨∃te pe,ev=.iface te pe)
theorem ErrT.below {w w':World} (h:ErrT w) (hb:Below w.heap.size w w'):ErrT w':=by
 obtain⟨ev,h,h2⟩:=h
 have hl:7<w.heap.size:=by
  rcases Nat.lt_or_ge 7 w.heap.size with h'|h'
  · exact h'
  · simp[World.cell?,Array.getElem?_eq_none h']at h
 exact⟨ev,(hb.cell (show(⟨7,0,none⟩:Addr).block<w.heap.size from hl)).trans h,h2⟩
structure WT (W:World):Prop where
 tab:Tab W
 err:ErrT W
theorem WT.below {w w':World} (h:WT w) (hb:Below w.heap.size w w'):WT w':=⟨h.tab.below hb,h.err.below hb⟩
def intO:Option Int→Int×Bool
 |some x=>if I64 x then(x,true)else(0,false)
 |none=>(0,false)
theorem Int_over (x:Int) (h:¬I64 x) (hl:x.natAbs<lim) (W:World) (he:ErrT W):IntW (S x) 0 false W:=by
 obtain⟨ev,hv,hev⟩:=he
 have hM:MayIs (S x) true:=fun w=>may_yes hl w
 have hP:=Tryz.strconv_ParseInt_10_at64_range (S x) (Nat.le_trans (S_size hl) (by decide)) (parse_i_over x h) ev W hv hev
 have KM:=Lib.hid hM
 have KP:=Lib.hid hP
 generalize Lib.intSat 64 (S x).data.toList=sat at KP
 generalize S x=s at KM KP ⊢
 clear hM hP hv hev hl h
 unfold IntW
 go_enter Tryz.func211,Tryz.ntmps211
 go_wp2_with fail
 refine(KM.out _).mono ?_
 rintro e w1 ⟨rfl,rfl⟩
 go_wp2_with fail
 refine(KP.out).mono ?_
 rintro e w2 ⟨N,rfl,_,_,hb⟩
 go_wp2_with fail
 go_ret2
 exact⟨rfl,hb⟩
theorem Int_no (s:ByteArray) (hm:mayL s.data.toList=false) (hs:s.size≤maxLen) (W:World):IntW s 0 false W:=by
 have hM:MayIs s false:=fun w=>hm▸may_any s w hs
 have KM:=Lib.hid hM
 clear hM hm
 unfold IntW
 go_enter Tryz.func211,Tryz.ntmps211
 go_wp2_with fail
 refine(KM.out _).mono ?_
 rintro e w1 ⟨rfl,rfl⟩
 go_wp2_with fail
 go_ret2
 exact⟨rfl,Below.refl _ _⟩
theorem Int_opt {s:ByteArray} {o:Option Int} (h:Is s o) (W:World) (he:ErrT W):IntW s (intO o).1 (intO o).2 W:=by
 cases o with
 |none=>exact Int_no s h.1 h.2 W
 |some x=>
  unfold intO
  dsimp only
  by_cases hi:I64 x
  · rw[if_pos hi,h.1];exact Int_ok x hi.1 hi.2 W
  · rw[if_neg hi,h.1];exact Int_over x hi h.2 W he
end
end Go.Proofs.YtbijncndjlmmdaaGreatDoor
namespace Go.Proofs.YtbijncndjlmmdaaGreatDoor
set_option linter.unusedVariables false
set_option linter.unusedSimpArgs false
open Go.RowKit
theorem Few_is {a b:Option Addr} {n c m d:Nat} {l:List Int} {es:List ByteArray} (W:World) (h:Vl W a n b m l es) (hz:∀j,j<m→(es.getD j ByteArray.empty).size≤maxLen):
 Calls Tryz.prog 31 #[.agg #[.slice a n c,.slice b m d]] W (BoolEnd (fewB l es) W):=by
 have r1:=h.mm
 have hl:=h.s.1
 have HT:=Lib.hid h.t
 have hno:∀j,j<m→j<301→120<(es.getD j ByteArray.empty).size→fewB l es=false:=fun j hj h3 h4=>fewB_at (by rw[h.t.1];exact hj) h3 h4
 have hyes:(∀j,j<m→j<301→(es.getD j ByteArray.empty).size≤120)→fewB l es=(decide (m≤300)&&decide (n≤20)):=fun hh=>by rw[fewB_all (by rw[h.t.1];exact hh),h.t.1,hl]
 have HN:=Lib.hid hno
 have HY:=Lib.hid hyes
 have HZ:=Lib.hid hz
 clear h hno hyes hl hz
 have hb0:Below W.heap.size W (W.alloc (.cells #[.slice a n c,.slice b m d] 25)):=(Below.refl _ _).alloc (Nat.le_refl _) _
 generalize fewB l es=v at HN HY ⊢
 go_enter Tryz.func31,Tryz.ntmps31
 go_wp2_with fail
 go_loop [3] (fun i=>∃k:Nat,i=.int .i64 k∧k≤m∧k≤301∧Hid (∀j,j<k→(es.getD j ByteArray.empty).size≤120)) (fun i=>m-(intOf i).toNat)
 case atStart=>exact⟨0,rfl,by omega,by omega,Lib.hid fun j hj=>by omega⟩
 case round=>
  obtain⟨k,rfl,hk,hk3,HI⟩:=hrel
  by_cases hlt:k<m
  · by_cases h3:k<301
    · have e2:(k:Int)<(m:Int):=by omega
      have e3:(k:Int)<301:=by omega
      obtain⟨bb,off,rfl,hc⟩:=HT.out.2 (by omega)
      have hck:=(hb0.cell (p:=⟨bb,off+k,none⟩) (World.block_lt_of_cell? W _ (hc k hlt))).trans (hc k hlt)
      clear hc
      obtain⟨s,hse⟩:∃s,s=es.getD k ByteArray.empty:=⟨_,rfl⟩
      have hsz:s.size≤9223372036854775807:=by have:=HZ.out k hlt;rw[←hse]at this;unfold maxLen at this;omega
      rw[←hse]at hck
      by_cases hs:120<s.size
      · obtain rfl:v=false:=HN.out k hlt h3 (by rw[←hse];exact hs)
        clear hse
        have e4:(120:Int)<(s.size:Int):=by omega
        go_wp2_with fail
        go_ret
        exact⟨rfl,hb0⟩
      · have HE:=Lib.hid hse
        clear hse
        have e4:¬(120:Int)<(s.size:Int):=by omega
        have HS:Hid (s.size≤120):=Lib.hid (by omega)
        go_wp2_with fail
        go_round
        case rel=>
         refine⟨k+1,by go_num,by omega,by omega,Lib.hid fun j hj=> ?_⟩
         rcases Nat.lt_or_ge j k with h2|h2
         · exact HI.out j h2
         · rw[show j=k by omega,←HE.out];exact HS.out
        case measure=>simp[intOf];omega
    · obtain rfl:k=301:=by omega
      obtain rfl:v=false:=(HY.out fun j _ h4=>HI.out j h4).trans (by rw[decide_eq_false (by omega)];rfl)
      have e2:(301:Int)<(m:Int):=by omega
      have e5:¬(m:Int)≤300:=by omega
      go_wp2_with fail
      go_ret
      exact⟨rfl,hb0⟩
  · have e2:¬(k:Int)<(m:Int):=by omega
    have hv:=HY.out fun j hj _=>HI.out j (by omega)
    by_cases c1:m≤300
    · by_cases c2:n≤20
      · obtain rfl:v=true:=hv.trans (by rw[decide_eq_true c1,decide_eq_true c2];rfl)
        have e5:(m:Int)≤300:=by omega
        have e6:(n:Int)≤20:=by omega
        clear hv
        go_wp2_with fail
        go_ret
        exact⟨rfl,hb0⟩
      · obtain rfl:v=false:=hv.trans (by rw[decide_eq_false c2];simp)
        have e5:(m:Int)≤300:=by omega
        have e6:¬(n:Int)≤20:=by omega
        clear hv
        go_wp2_with fail
        go_ret
        exact⟨rfl,hb0⟩
    · obtain rfl:v=false:=hv.trans (by rw[decide_eq_false c1];rfl)
      have e5:¬(m:Int)≤300:=by omega
      clear hv
      go_wp2_with fail
      go_ret
      exact⟨rfl,hb0⟩
def fine (x:Int):Bool:=decide (-1099511627776≤x)&&decide (x≤1099511627776)
def NearEnd (x e:Int) (W:World) (x':Ending) (W':World):Prop:=x'=.returned (.tuple #[.int .i64 x,.int .i64 e])∧Below W.heap.size W W'
theorem fine_yes {x:Int}:fine x=true↔ -1099511627776≤x∧x≤1099511627776:=by simp[fine]
theorem fine_no {x:Int}:fine x=false↔x< -1099511627776∨1099511627776<x:=by
 rw[←Bool.not_eq_true,fine_yes];omega
theorem near_yes (s:ByteArray) (x:Int) (W:World) (hi:IntW s x true W) (hf:fine x=true):Calls Tryz.prog 180 #[.string s] W (NearEnd x 0 W):=by
 obtain⟨h0,h1⟩:=fine_yes.1 hf
 unfold IntW at hi
 have K:=Lib.hid hi
 clear hi hf
 go_enter Tryz.func180,Tryz.ntmps180
 go_wp2_with fail
 refine K.out.mono ?_
 rintro x w1 ⟨rfl,hb⟩
 go_wp2_with fail
 go_ret2
 exact⟨rfl,hb⟩
theorem near_no (s:ByteArray) (x:Int) (v:Bool) (W:World) (hi:IntW s x v W) (hf:v=false∨fine x=false):Calls Tryz.prog 180 #[.string s] W (NearEnd 0 5 W):=by
 unfold IntW at hi
 have K:=Lib.hid hi
 clear hi
 rcases Bool.eq_false_or_eq_true v with rfl|rfl
 · have hf:fine x=false:=by rcases hf with h|h;cases h;exact h
   have hc:=fine_no.1 hf
   clear hf
   by_cases c1:x< -1099511627776
   · clear hc
     go_enter Tryz.func180,Tryz.ntmps180
     go_wp2_with fail
     refine K.out.mono ?_
     rintro x w1 ⟨rfl,hb⟩
     go_wp2_with fail
     go_ret2
     exact⟨rfl,hb⟩
   · have c2:1099511627776<x:=by omega
     clear hc
     go_enter Tryz.func180,Tryz.ntmps180
     go_wp2_with fail
     refine K.out.mono ?_
     rintro x w1 ⟨rfl,hb⟩
     go_wp2_with fail
     go_ret2
     exact⟨rfl,hb⟩
 · clear hf
   go_enter Tryz.func180,Tryz.ntmps180
   go_wp2_with fail
   refine K.out.mono ?_
   rintro x w1 ⟨rfl,hb⟩
   go_wp2_with fail
   go_ret2
   exact⟨rfl,hb⟩
def ScEnd (s:ByteArray) (W:World) (e:Ending) (W':World):Prop:=
 ∃g,e=.returned (.agg #[.slice none 0 0,.slice (some ⟨g,0,none⟩) 1 1])∧W'.cell? ⟨g,0,none⟩=some (.string s)∧Below W.heap.size W W'
theorem St.one {W:World} {g:Nat} {s:ByteArray} (h:W.cell? ⟨g,0,none⟩=some (.string s)):St W (some ⟨g,0,none⟩) 1 [s]:=by
 refine⟨rfl,fun _=>⟨g,0,rfl,fun j hj=> ?_⟩⟩
 obtain rfl:j=0:=by omega
 exact h
theorem Vl.one {W:World} {g:Nat} {s:ByteArray} (h:W.cell? ⟨g,0,none⟩=some (.string s)):Vl W none 0 (some ⟨g,0,none⟩) 1 [] [s]:=⟨Sl.nil _ _,St.one h,by omega⟩
theorem Scalar_is (s:ByteArray) (W:World):Calls Tryz.prog 29 #[.string s] W (ScEnd s W):=by
 go_enter Tryz.func29,Tryz.ntmps29
 go_wp2_with fail
 have hc:=cell_of_row _ _ 0 _ _ _ (heap_alloc_new (W.alloc (.cells #[.slice none 0 0,.slice (some ⟨W.heap.size+1,0,none⟩) 1 1] 25)) (.cells #[.string s] 9))
 rw[show(W.alloc (.cells #[.slice none 0 0,.slice (some ⟨W.heap.size+1,0,none⟩) 1 1] 25)).heap.size=W.heap.size+1 by simp]at hc
 exact bodyPost_ret (v:=.agg #[.slice none 0 0,.slice (some ⟨W.heap.size+1,0,none⟩) 1 1]) (by simp[results,Tryz.results29,go_sem]) rfl ⟨_,rfl,hc,((Below.refl _ _).alloc (Nat.le_refl _) _).alloc (by simp) _⟩
end Go.Proofs.YtbijncndjlmmdaaGreatDoor
namespace Go.Proofs.YtbijncndjlmmdaaGreatDoor
set_option linter.unusedVariables false
set_option linter.unusedSimpArgs false
open Go.RowKit
theorem St.row {w:World} {g:Nat} {l:List ByteArray} {t:TypeId} {fr:Nat×Nat} (h:w.heap[g]?=some (.cells (l.map Value.string).toArray t fr)):St w (some ⟨g,0,none⟩) l.length l:=by
 refine⟨rfl,fun _=>⟨g,0,rfl,fun j hj=> ?_⟩⟩
 rw[Nat.zero_add,cell_of_row w g j _ _ _ h]
 simp[List.getD_eq_getElem?_getD,List.getElem?_eq_getElem hj]
theorem Sl.row {w:World} {g:Nat} {l:List Int} {t:TypeId} {fr:Nat×Nat} (h:w.heap[g]?=some (.cells (l.map (Value.int .i64)).toArray t fr)):Sl w (some ⟨g,0,none⟩) l.length l:=by
 refine⟨rfl,fun _=>⟨g,0,rfl,fun j hj=> ?_⟩⟩
 rw[Nat.zero_add,cell_of_row w g j _ _ _ h]
 simp[List.getD_eq_getElem?_getD,List.getElem?_eq_getElem hj]
theorem below_drewN {B:Nat} {a w:World} (h:Below B a w) (n:Nat):Below B a (w.drewN n):=⟨h.os,h.tape,h.output,h.size,h.block⟩
end Go.Proofs.YtbijncndjlmmdaaGreatDoor
namespace Go.Proofs.YtbijncndjlmmdaaGreatDoor
set_option linter.unusedVariables false
set_option linter.unusedSimpArgs false
open Go.RowKit
set_option maxRecDepth 10000
def Rd (w:World) (A:Option Addr) (m:Nat) (news:List Value):Prop:=
 news.length=m∧(0<m→∃b off,A=some ⟨b,off,none⟩∧∀j u,news[j]?=some u→w.cell? ⟨b,off+j,none⟩=some u)
def valsS (es:List ByteArray):List Value:=es.map Value.string
theorem Sl.rd {w:World} {A:Option Addr} {m:Nat} {l:List Int} (h:Sl w A m l):Rd w A m (valsI l):=by
 refine⟨by unfold valsI;rw[List.length_map,h.1],fun hm=> ?_⟩
 obtain⟨b,off,e,hc⟩:=h.2 hm
 refine⟨b,off,e,fun j u hu=> ?_⟩
 unfold valsI at hu
 rw[List.getElem?_map,Option.map_eq_some_iff]at hu
 obtain⟨x,hx,rfl⟩:=hu
 obtain⟨hlt,rfl⟩:=List.getElem?_eq_some_iff.1 hx
 rw[hc j (by rw[←h.1];exact hlt)]
 simp[List.getD_eq_getElem?_getD,List.getElem?_eq_getElem hlt]
theorem St.rd {w:World} {A:Option Addr} {m:Nat} {l:List ByteArray} (h:St w A m l):Rd w A m (valsS l):=by
 refine⟨by unfold valsS;rw[List.length_map,h.1],fun hm=> ?_⟩
 obtain⟨b,off,e,hc⟩:=h.2 hm
 refine⟨b,off,e,fun j u hu=> ?_⟩
 unfold valsS at hu
 rw[List.getElem?_map,Option.map_eq_some_iff]at hu
 obtain⟨x,hx,rfl⟩:=hu
 obtain⟨hlt,rfl⟩:=List.getElem?_eq_some_iff.1 hx
 rw[hc j (by rw[←h.1];exact hlt)]
 simp[List.getD_eq_getElem?_getD,List.getElem?_eq_getElem hlt]
theorem Rd.sl {w:World} {A:Option Addr} {m:Nat} {l:List Int} (h:Rd w A m (valsI l)):Sl w A m l:=by
 have hl:l.length=m:=by have:=h.1;unfold valsI at this;rwa [List.length_map]at this
 refine⟨hl,fun hm=> ?_⟩
 obtain⟨b,off,e,hc⟩:=h.2 hm
 refine⟨b,off,e,fun j hj=>hc j _ ?_⟩
 unfold valsI
 simp[List.getD_eq_getElem?_getD,List.getElem?_eq_getElem (show j<l.length by omega)]
theorem valsI_one (l:List Int):∀u∈valsI l,u.oneCell'=true:=by
 intro u hu
 obtain⟨x,_,rfl⟩:=List.mem_map.1 hu
 rfl
theorem valsS_one (l:List ByteArray):∀u∈valsS l,u.oneCell'=true:=by
 intro u hu
 obtain⟨x,_,rfl⟩:=List.mem_map.1 hu
 rfl
theorem own_form {w:World} {base n:Nat} {e:TypeId} {v:Value} {xs:List Value} (h:w.ownsRow base e 1 v n xs):∃a c,v=.slice a n c:=by
 rcases h.2 with⟨rfl,rfl⟩|⟨g,cap,_,rfl,_⟩
 · exact⟨_,_,rfl⟩
 · exact⟨_,_,rfl⟩
theorem own_cells {w:World} {base n:Nat} {e:TypeId} {a:Option Addr} {c:Nat} {xs:List Value} (h:w.ownsRow base e 1 (.slice a n c) n xs) (hn:0<n):∃g,a=some ⟨g,0,none⟩∧base≤g∧(∀j,j<n→w.cell? ⟨g,j,none⟩=xs[j]?)∧∀j,w.frozen? ⟨g,j,none⟩=false:=by
 obtain⟨hl,h⟩:=h
 rw[Nat.mul_one]at hl
 rcases h with⟨_,h0⟩|⟨g,cap,cur,hv,hb,hg,_,_,_,ht⟩
 · omega
 · injection hv with hv _ _
   refine⟨g,hv,hb,fun j hj=> ?_,fun j=>frozen_of_row _ _ j _ _ hg⟩
   rw[Nat.mul_one]at ht
   rw[cell_of_row w g j cur _ _ hg,←Array.getElem?_toList]
   have e:cur.toList[j]?=(cur.toList.take n)[j]?:=by rw[List.getElem?_take_of_lt hj]
   rw[e,ht]
theorem own_sl {w:World} {base n:Nat} {e:TypeId} {a:Option Addr} {c:Nat} {l:List Int} (h:w.ownsRow base e 1 (.slice a n c) n (valsI l)):Sl w a n l:=by
 have hl:l.length=n:=by have:=h.1;unfold valsI at this;rwa [List.length_map,Nat.mul_one]at this
 refine⟨hl,fun hn=> ?_⟩
 obtain⟨g,rfl,_,hc,_⟩:=own_cells h hn
 refine⟨g,0,rfl,fun j hj=> ?_⟩
 rw[Nat.zero_add,hc j hj]
 unfold valsI
 simp[List.getD_eq_getElem?_getD,List.getElem?_eq_getElem (show j<l.length by omega)]
theorem own_st {w:World} {base n:Nat} {e:TypeId} {a:Option Addr} {c:Nat} {l:List ByteArray} (h:w.ownsRow base e 1 (.slice a n c) n (valsS l)):St w a n l:=by
 have hl:l.length=n:=by have:=h.1;unfold valsS at this;rwa [List.length_map,Nat.mul_one]at this
 refine⟨hl,fun hn=> ?_⟩
 obtain⟨g,rfl,_,hc,_⟩:=own_cells h hn
 refine⟨g,0,rfl,fun j hj=> ?_⟩
 rw[Nat.zero_add,hc j hj]
 unfold valsS
 simp[List.getD_eq_getElem?_getD,List.getElem?_eq_getElem (show j<l.length by omega)]
section
variable {w:World}
theorem run_append_void (base:Nat) (t ty e:TypeId) (i:TypeInfo) (ht:Tryz.prog.underlying t=some (.slice e)) (hi:Tryz.prog.info? e=some i)
 (v:Value) (n:Nat) (xs:List Value) (hown:w.ownsRow base e 1 v n xs) (c:Nat):(Builtin.append_ #[t,t] ty #[v,.slice none 0 c]).run Tryz.prog w=.ok v w:=by
 rcases hown.2 with⟨rfl,rfl⟩|⟨g,cap,cur,rfl,_,_,hnc,_⟩
 · simp[Builtin.append_,run_underlying ht,sizeOf,typeInfo,hi,Builtin.lenOf,Builtin.firstCells]
 · simp[Builtin.append_,run_underlying ht,sizeOf,typeInfo,hi,Builtin.lenOf,Builtin.firstCells,hnc,storeCells]
theorem run_append_rd (base:Nat) (t ty e:TypeId) (i:TypeInfo) (z:Value) (bytes:Nat) (ht:Tryz.prog.underlying t=some (.slice e)) (hi:Tryz.prog.info? e=some i) (hz:i.zero=some z)
 (hsize:i.size=1) (hby:i.bytes=bytes) (hzs:z.cells.size=1) (hbb:bytes≤100)
 (v:Value) (n:Nat) (xs:List Value) (hown:w.ownsRow base e 1 v n xs) (A:Option Addr) (m c:Nat) (news:List Value) (hr:Rd w A m news) (h1:∀u∈news,u.oneCell'=true)
 (hnm:n+m≤1000000) (hbase:base≤w.heap.size):
 ∃av cv w',(Builtin.append_ #[t,t] ty #[v,.slice A m c]).run Tryz.prog w=.ok (.slice av (n+m) cv) w'∧w'.ownsRow base e 1 (.slice av (n+m) cv) (n+m) (xs++news)∧w.grownBy w' v.ownBlock:=by
 rcases A with _|ad
 · have hm:m=0:=by
    rcases Nat.eq_zero_or_pos m with h0|h0
    · exact h0
    · obtain⟨b,off,e,_⟩:=hr.2 h0;cases e
   subst hm
   have hn:news=[]:=List.eq_nil_of_length_eq_zero hr.1
   subst hn
   obtain⟨av,cv,rfl⟩:=own_form hown
   refine⟨av,cv,w,run_append_void base t ty e i ht hi _ n xs hown c,?_,World.grownBy.refl w _⟩
   rw[List.append_nil];exact hown
 · have hcells:∀j u,news[j]?=some u→w.cell? (ad.add j)=some u:=by
    intro j u hu
    rcases Nat.eq_zero_or_pos m with h0|h0
    · have hn:news=[]:=List.eq_nil_of_length_eq_zero (by rw[hr.1];exact h0)
      subst hn
      cases hu
    · obtain⟨b,off,e,hc⟩:=hr.2 h0
      injection e with e
      subst e
      rw[Lib.add_plain]
      exact hc j u hu
   have hbn:(n+m)*bytes≤140737488355328:=by
    have:(n+m)*bytes≤1000000*100:=Nat.mul_le_mul hnm hbb
    omega
   obtain⟨v',w',hrun,h2,h3,_,_⟩:=run_append_own_at (P:=Tryz.prog) w base t ty e i z 1 bytes ht hi hz hsize hby hzs (by omega) v n xs hown ad m c news (by rw[Nat.mul_one];exact hr.1) hcells h1 (by unfold maxLen;omega) hbn hbase
   obtain⟨av,cv,rfl⟩:=own_form h2
   exact⟨av,cv,w',hrun,h2,h3⟩
theorem wp_append_rd {o:Oper} {a:Act} {K:Act→World→Prop} {Q:Exit→Act→World→Prop} (s x:Operand) (t:TypeId)
 (ho:o.op=.call {callee:=.builtin .append,args:=#[s,x],argTypes:=#[t,t]})
 (base:Nat) (e:TypeId) (z:Value) (bytes:Nat) (ht:Tryz.prog.underlying t=some (.slice e)) (hinfo:(Tryz.prog.info? e).map (fun i=>(i.zero,i.size,i.bytes))=some (some z,1,bytes)) (hzs:z.cells.size=1) (hbb:bytes≤100)
 (v:Value) (n:Nat) (xs:List Value) (hs:a.eval s=v) (hown:w.ownsRow base e 1 v n xs)
 (A:Option Addr) (m c:Nat) (news:List Value) (hx:a.eval x=.slice A m c) (hr:Rd w A m news) (h1:∀u∈news,u.oneCell'=true)
 (hnm:n+m≤1000000) (hbase:base≤w.heap.size)
 (h:∀av cv w',w'.ownsRow base e 1 (.slice av (n+m) cv) (n+m) (xs++news)→w.grownBy w' v.ownBlock→K (a.put o.dst (.slice av (n+m) cv)) w'):o.wp Tryz.prog a w K Q:=by
 obtain⟨i,hi,hzz⟩:=Option.map_eq_some_iff.1 hinfo
 simp only[Prod.mk.injEq]at hzz
 obtain⟨hz0,hz1,hz2⟩:=hzz
 obtain⟨av,cv,w',hrun,h2,h3⟩:=run_append_rd (w:=w) base t o.type e i z bytes ht hi hz0 hz1 hz2 hzs hbb v n xs hown A m c news hr h1 hnm hbase
 unfold Oper.wp execOp
 simp only[ho,resolve,invoke,builtin,Sem.run_bind,Sem.run_pure,Result.andThen_ok,List.map_toArray,List.map_cons,List.map_nil,hs,hx,hrun]
 exact h av cv w' h2 h3
theorem wpList_append_rd {ops:Array Oper} {rest:List Oper} {o:Oper} {a:Act} {Q:Exit→Act→World→Prop} (hgd:o.guard=none) (s x:Operand) (t:TypeId)
 (ho:o.op=.call {callee:=.builtin .append,args:=#[s,x],argTypes:=#[t,t]})
 (base:Nat) (e:TypeId) (z:Value) (bytes:Nat) (ht:Tryz.prog.underlying t=some (.slice e)) (hinfo:(Tryz.prog.info? e).map (fun i=>(i.zero,i.size,i.bytes))=some (some z,1,bytes)) (hzs:z.cells.size=1) (hbb:bytes≤100)
 (v:Value) (n:Nat) (xs:List Value) (hs:a.eval s=v) (hown:w.ownsRow base e 1 v n xs)
 (A:Option Addr) (m c:Nat) (news:List Value) (hx:a.eval x=.slice A m c) (hr:Rd w A m news) (h1:∀u∈news,u.oneCell'=true)
 (hnm:n+m≤1000000) (hbase:base≤w.heap.size)
 (h:∀av cv w',w'.ownsRow base e 1 (.slice av (n+m) cv) (n+m) (xs++news)→w.grownBy w' v.ownBlock→wpList Tryz.prog ops Q rest (a.put o.dst (.slice av (n+m) cv)) w'):wpList Tryz.prog ops Q (o::rest) a w:=
 wpList_plain hgd fun _ hK=>wp_append_rd s x t ho base e z bytes ht hinfo hzs hbb v n xs hs hown A m c news hx hr h1 hnm hbase fun av cv w' h2 h3=>hK _ _ (h av cv w' h2 h3)
theorem step_append_rd {ops:Array Oper} {o:Oper} {a:Act} {K:Act→World→Prop} {Q:Exit→Act→World→Prop} {E:Prop} (hgd:o.guard=none) (s x:Operand) (t:TypeId)
 (ho:o.op=.call {callee:=.builtin .append,args:=#[s,x],argTypes:=#[t,t]})
 (base:Nat) (e:TypeId) (z:Value) (bytes:Nat) (ht:Tryz.prog.underlying t=some (.slice e)) (hinfo:(Tryz.prog.info? e).map (fun i=>(i.zero,i.size,i.bytes))=some (some z,1,bytes)) (hzs:z.cells.size=1) (hbb:bytes≤100)
 (v:Value) (n:Nat) (xs:List Value) (hs:a.eval s=v) (hown:w.ownsRow base e 1 v n xs)
 (A:Option Addr) (m c:Nat) (news:List Value) (hx:a.eval x=.slice A m c) (hr:Rd w A m news) (h1:∀u∈news,u.oneCell'=true)
 (hnm:n+m≤1000000) (hbase:base≤w.heap.size)
 (h:∀av cv w',w'.ownsRow base e 1 (.slice av (n+m) cv) (n+m) (xs++news)→w.grownBy w' v.ownBlock→K (a.put o.dst (.slice av (n+m) cv)) w'):
 if Region.wanted o (yielded ops a.tmps)=true then Oper.wp Tryz.prog o a w K Q else E:=by
 have hw:Region.wanted o (yielded ops a.tmps)=true:=by simp[Region.wanted,hgd]
 rw[if_pos hw]
 exact wp_append_rd s x t ho base e z bytes ht hinfo hzs hbb v n xs hs hown A m c news hx hr h1 hnm hbase h
end
theorem own_base {w:World} {B B' n:Nat} {e:TypeId} {v:Value} {xs:List Value} (h:w.ownsRow B e 1 v n xs) (hB:B'≤B):w.ownsRow B' e 1 v n xs:=by
 refine⟨h.1,?_⟩
 rcases h.2 with h|⟨g,cap,cur,hv,h1,h2⟩
 · exact .inl h
 · exact .inr ⟨g,cap,cur,hv,Nat.le_trans hB h1,h2⟩
theorem own_rd {w:World} {B n:Nat} {e:TypeId} {av:Option Addr} {cv:Nat} {xs:List Value} (h:w.ownsRow B e 1 (.slice av n cv) n xs):Rd w av n xs:=by
 have hl:=h.1
 rw[Nat.mul_one]at hl
 refine⟨hl,fun hn=> ?_⟩
 obtain⟨g,rfl,_,hc,_⟩:=own_cells h hn
 refine⟨g,0,rfl,fun j u hu=> ?_⟩
 obtain⟨hlt,_⟩:=List.getElem?_eq_some_iff.1 hu
 rw[Nat.zero_add,hc j (by omega),hu]
theorem grown_below' {B:Nat} {w w':World} {row:Option Nat} (h:w.grownBy w' row) (hg:∀g,row=some g→B≤g) (hB:B≤w.heap.size):Below B w w':=
 ⟨h.os,h.tape,h.output,h.size,fun k hk=>h.block k (by omega) (by intro e;have:=hg k e.symm;omega)⟩
section
variable {w:World}
theorem run_append_full (t ty e:TypeId) (z:Value) (bytes:Nat) (ht:Tryz.prog.underlying t=some (.slice e)) (hinfo:(Tryz.prog.info? e).map (fun i=>(i.zero,i.size,i.bytes))=some (some z,1,bytes)) (hzs:z.cells.size=1) (hbb:bytes≤100)
 (A0:Option Addr) (n0:Nat) (xs:List Value) (hr0:Rd w A0 n0 xs) (hx1:∀u∈xs,u.oneCell'=true) (A:Option Addr) (m c:Nat) (news:List Value) (hr:Rd w A m news) (h1:∀u∈news,u.oneCell'=true) (hnm:n0+m≤1000000):
 ∃av cv w',(Builtin.append_ #[t,t] ty #[.slice A0 n0 n0,.slice A m c]).run Tryz.prog w=.ok (.slice av (n0+m) cv) w'∧Below w.heap.size w w'∧Rd w' av (n0+m) (xs++news)∧
  (0<m→w'.ownsRow w.heap.size e 1 (.slice av (n0+m) cv) (n0+m) (xs++news))∧(m=0→av=A0∧cv=n0∧w'=w):=by
 obtain⟨i,hi,hzz⟩:=Option.map_eq_some_iff.1 hinfo
 simp only[Prod.mk.injEq]at hzz
 obtain⟨hz0,hz1,hz2⟩:=hzz
 rcases Nat.eq_zero_or_pos m with hm|hm
 · subst hm
   have hn:news=[]:=List.eq_nil_of_length_eq_zero hr.1
   subst hn
   refine⟨A0,n0,w,?_,Below.refl _ _,by rw[List.append_nil];exact hr0,fun h=>by omega,fun _=>⟨rfl,rfl,rfl⟩⟩
   cases A<;>cases A0<;>simp[Builtin.append_,run_underlying ht,sizeOf,typeInfo,hi,Builtin.lenOf,Builtin.firstCells,storeCells,loadCells,loadCellsFrom]
 · obtain⟨b,off,rfl,hc⟩:=hr.2 hm
   have hcells:∀j u,news[j]?=some u→w.cell? ((⟨b,off,none⟩:Addr).add j)=some u:=by
    intro j u hu;rw[Lib.add_plain];exact hc j u hu
   have hb1:(n0+m)*bytes≤1000000*100:=Nat.mul_le_mul hnm hbb
   have key:∀(old:Nat),old<n0+m→(w.drew.alloc (.cells (xs.toArray++news.toArray++Builtin.zeroCells z.cells (grownCap w (n0+m) old e-(n0+m))) e)).ownsRow w.heap.size e 1
    (.slice (some ⟨w.heap.size,0,none⟩) (n0+m) (grownCap w (n0+m) old e)) (n0+m) (xs++news):=by
    intro old ho
    have hge:=grownCap_ge w (n0+m) old e
    have hcm:=grownCap_le_maxLen w (n0+m) old e (by unfold maxLen;omega)
    refine⟨by rw[List.length_append,hr0.1,hr.1,Nat.mul_one],.inr ⟨w.heap.size,_,_,rfl,Nat.le_refl _,heap_alloc_new w.drew _,hge,hcm,?_,?_⟩⟩
    · simp only[Array.size_append,List.size_toArray,size_zeroCells,hzs,hr0.1,hr.1,Nat.mul_one]
      omega
    · simp only[Array.toList_append,List.append_assoc]
      rw[←List.append_assoc,Nat.mul_one,←show(xs++news).length=n0+m by rw[List.length_append,hr0.1,hr.1]]
      exact List.take_left
   have hbel:∀o,Below w.heap.size w (w.drew.alloc o):=fun o=>(Below.refl _ _).drew.alloc (Nat.le_refl _) _
   rcases A0 with _|ad
   · have h0:n0=0:=by
      rcases Nat.eq_zero_or_pos n0 with h|h
      · exact h
      · obtain⟨_,_,e,_⟩:=hr0.2 h;cases e
     subst h0
     have hx:xs=[]:=List.eq_nil_of_length_eq_zero hr0.1
     subst hx
     have hrun:=run_append_nil (P:=Tryz.prog) w t ty e i z ht hi hz0 ⟨b,off,none⟩ m c news (by rw[hz1,Nat.mul_one];exact hr.1) hcells hm (by omega) (by rw[hz2];have:=Nat.mul_le_mul (show m≤1000000 by omega) hbb;omega)
     have k:=key 0 (by omega)
     simp only[Nat.zero_add,List.nil_append,Array.empty_append]at k ⊢
     exact⟨_,_,_,hrun,hbel _,own_rd k,fun _=>k,fun h=>by omega⟩
   · have holds:∀j v,xs[j]?=some v→w.cell? (ad.add j)=some v:=by
      intro j u hu
      obtain⟨hlt,_⟩:=List.getElem?_eq_some_iff.1 hu
      obtain⟨b',off',e,hc'⟩:=hr0.2 (by rw[←hr0.1];omega)
      injection e with e
      subst e
      rw[Lib.add_plain];exact hc' j u hu
     have hrun:=run_append_grow (P:=Tryz.prog) w t ty e i z ht hi hz0 ad n0 n0 xs (by rw[hz1,Nat.mul_one];exact hr0.1) holds ⟨b,off,none⟩ m c news (by rw[hz1,Nat.mul_one];exact hr.1) hcells (by omega) (by omega) (by rw[hz2];exact growslice_fits (by omega) (by omega))
     have k:=key n0 (by omega)
     exact⟨_,_,_,hrun,hbel _,own_rd k,fun _=>k,fun h=>by omega⟩
theorem wp_append_full {o:Oper} {a:Act} {K:Act→World→Prop} {Q:Exit→Act→World→Prop} (s x:Operand) (t:TypeId)
 (ho:o.op=.call {callee:=.builtin .append,args:=#[s,x],argTypes:=#[t,t]})
 (e:TypeId) (z:Value) (bytes:Nat) (ht:Tryz.prog.underlying t=some (.slice e)) (hinfo:(Tryz.prog.info? e).map (fun i=>(i.zero,i.size,i.bytes))=some (some z,1,bytes)) (hzs:z.cells.size=1) (hbb:bytes≤100)
 (A0:Option Addr) (n0:Nat) (xs:List Value) (hs:a.eval s=.slice A0 n0 n0) (hr0:Rd w A0 n0 xs) (hx1:∀u∈xs,u.oneCell'=true) (A:Option Addr) (m c:Nat) (news:List Value) (hx:a.eval x=.slice A m c) (hr:Rd w A m news) (h1:∀u∈news,u.oneCell'=true) (hnm:n0+m≤1000000)
 (h:∀av cv w',Below w.heap.size w w'→Rd w' av (n0+m) (xs++news)→(0<m→w'.ownsRow w.heap.size e 1 (.slice av (n0+m) cv) (n0+m) (xs++news))→(m=0→av=A0∧cv=n0∧w'=w)→K (a.put o.dst (.slice av (n0+m) cv)) w'):o.wp Tryz.prog a w K Q:=by
 obtain⟨av,cv,w',hrun,h2,h3,h4,h5⟩:=run_append_full (w:=w) t o.type e z bytes ht hinfo hzs hbb A0 n0 xs hr0 hx1 A m c news hr h1 hnm
 unfold Oper.wp execOp
 simp only[ho,resolve,invoke,builtin,Sem.run_bind,Sem.run_pure,Result.andThen_ok,List.map_toArray,List.map_cons,List.map_nil,hs,hx,hrun]
 exact h av cv w' h2 h3 h4 h5
theorem wpList_append_full {ops:Array Oper} {rest:List Oper} {o:Oper} {a:Act} {Q:Exit→Act→World→Prop} (hgd:o.guard=none) (s x:Operand) (t:TypeId)
 (ho:o.op=.call {callee:=.builtin .append,args:=#[s,x],argTypes:=#[t,t]})
 (e:TypeId) (z:Value) (bytes:Nat) (ht:Tryz.prog.underlying t=some (.slice e)) (hinfo:(Tryz.prog.info? e).map (fun i=>(i.zero,i.size,i.bytes))=some (some z,1,bytes)) (hzs:z.cells.size=1) (hbb:bytes≤100)
 (A0:Option Addr) (n0:Nat) (xs:List Value) (hs:a.eval s=.slice A0 n0 n0) (hr0:Rd w A0 n0 xs) (hx1:∀u∈xs,u.oneCell'=true) (A:Option Addr) (m c:Nat) (news:List Value) (hx:a.eval x=.slice A m c) (hr:Rd w A m news) (h1:∀u∈news,u.oneCell'=true) (hnm:n0+m≤1000000)
 (h:∀av cv w',Below w.heap.size w w'→Rd w' av (n0+m) (xs++news)→(0<m→w'.ownsRow w.heap.size e 1 (.slice av (n0+m) cv) (n0+m) (xs++news))→(m=0→av=A0∧cv=n0∧w'=w)→wpList Tryz.prog ops Q rest (a.put o.dst (.slice av (n0+m) cv)) w'):wpList Tryz.prog ops Q (o::rest) a w:=
 wpList_plain hgd fun _ hK=>wp_append_full s x t ho e z bytes ht hinfo hzs hbb A0 n0 xs hs hr0 hx1 A m c news hx hr h1 hnm fun av cv w' h2 h3 h4 h5=>hK _ _ (h av cv w' h2 h3 h4 h5)
end
theorem Bx.set0 {W:World} {a b:Option Addr} {g n c m d:Nat} (h:Bx W g a n c b m d) (a':Option Addr) (n' c':Nat):Bx (W.setCell ⟨g,0,none⟩ (.slice a' n' c')) g a' n' c' b m d:=by
 unfold Bx at h ⊢
 simp[World.setCell,Array.getElem?_modify,h]
end Go.Proofs.YtbijncndjlmmdaaGreatDoor

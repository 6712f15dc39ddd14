import Derived.Test.YtcfbjdplhgdpfaaGreatDoorTbs
set_option maxHeartbeats 6400000
set_option maxRecDepth 10000
namespace Go.Proofs.YtcfbjdplhgdpfaaGreatDoor
set_option linter.unusedVariables false
set_option linter.unusedSimpArgs false
section
open Go.RowKit
theorem yB5 (b:Bool) (w:World):Calls Tryz.prog 112 #[.bool b] w fun e w'=>e=.returned (.string (S (bI b)))∧w=w':=by
 cases b
 · rw[show S (bI false)=⟨#[48]⟩from S_0]
   go_in;go_wp2_with fail;go_ret;exact⟨rfl,rfl⟩
 · rw[show S (bI true)=⟨#[49]⟩from S_1]
   go_in;go_wp2_with fail;go_ret;exact⟨rfl,rfl⟩
def yC5 (op a b d:ByteArray) (ec:Int):Prop:=∀w,Calls Tryz.prog 88 #[.string op,.string a,.string b] w fun e w'=>e=.returned (.tuple #[.string d,.int .i64 ec])∧Below w.heap.size w w'
def yD5 (op a d:ByteArray) (ec:Int):Prop:=∀w,Calls Tryz.prog 59 #[.string op,.string a] w fun e w'=>e=.returned (.tuple #[.string d,.int .i64 ec])∧Below w.heap.size w w'
def yE5 (b:Bool) (d:ByteArray):Prop:=∀w,Calls Tryz.prog 112 #[.bool b] w fun e w'=>e=.returned (.string d)∧w=w'
def yF5 (F:FuncId) (a b d:ByteArray) (ec:Int):Prop:=∀w,Calls Tryz.prog F #[.string a,.string b] w fun e w'=>e=.returned (.tuple #[.string d,.int .i64 ec])∧Below w.heap.size w w'
theorem yG5 (a b:ByteArray) (c:Int) (HA:yTj a true) (HB:yTj b true) (HC:zVi a b c) (d:ByteArray) (ec:Int) (HF:yF5 129 a b d ec):yC5 ⟨#[43]⟩ a b d ec:=by
 intro w;unfold zVi zE7 at HC;unfold yF5 at HF;have KA:=zC HA;have KB:=zC HB;have KC:=zC HC;have KF:=zC HF;clear HA HB HC HF;go_in;go_wp2_with fail;refine(KA.out _).mono ?_;rintro e w1 ⟨rfl,rfl⟩;go_wp2_with fail;refine(KB.out _).mono ?_;rintro e w1 ⟨rfl,rfl⟩;go_wp2_with fail;refine(KC.out _).mono ?_;rintro e w1 ⟨rfl,hb⟩;go_wp2_with fail;refine(KF.out _).mono ?_;rintro e w2 ⟨rfl,hq⟩;replace hb:=hb.trans (hq.mono hb.size);clear hq;go_wp2_with fail;go_ret2;exact⟨rfl,hb⟩
theorem yH5 (a b:ByteArray) (c:Int) (HA:yTj a true) (HB:yTj b true) (HC:zVi a b c) (d:ByteArray) (ec:Int) (HF:yF5 130 a b d ec):yC5 ⟨#[45]⟩ a b d ec:=by
 intro w;unfold zVi zE7 at HC;unfold yF5 at HF;have KA:=zC HA;have KB:=zC HB;have KC:=zC HC;have KF:=zC HF;clear HA HB HC HF;go_in;go_wp2_with fail;refine(KA.out _).mono ?_;rintro e w1 ⟨rfl,rfl⟩;go_wp2_with fail;refine(KB.out _).mono ?_;rintro e w1 ⟨rfl,rfl⟩;go_wp2_with fail;refine(KC.out _).mono ?_;rintro e w1 ⟨rfl,hb⟩;go_wp2_with fail;refine(KF.out _).mono ?_;rintro e w2 ⟨rfl,hq⟩;replace hb:=hb.trans (hq.mono hb.size);clear hq;go_wp2_with fail;go_ret2;exact⟨rfl,hb⟩
theorem yI5 (a b:ByteArray) (c:Int) (HA:yTj a true) (HB:yTj b true) (HC:zVi a b c) (d:ByteArray) (ec:Int) (HF:yF5 131 a b d ec):yC5 ⟨#[42]⟩ a b d ec:=by
 intro w;unfold zVi zE7 at HC;unfold yF5 at HF;have KA:=zC HA;have KB:=zC HB;have KC:=zC HC;have KF:=zC HF;clear HA HB HC HF;go_in;go_wp2_with fail;refine(KA.out _).mono ?_;rintro e w1 ⟨rfl,rfl⟩;go_wp2_with fail;refine(KB.out _).mono ?_;rintro e w1 ⟨rfl,rfl⟩;go_wp2_with fail;refine(KC.out _).mono ?_;rintro e w1 ⟨rfl,hb⟩;go_wp2_with fail;refine(KF.out _).mono ?_;rintro e w2 ⟨rfl,hq⟩;replace hb:=hb.trans (hq.mono hb.size);clear hq;go_wp2_with fail;go_ret2;exact⟨rfl,hb⟩
theorem yJ5 (a b:ByteArray) (c:Int) (HA:yTj a true) (HB:yTj b true) (HC:zVi a b c) (d:ByteArray) (ec:Int) (HF:yF5 132 a b d ec):yC5 ⟨#[37]⟩ a b d ec:=by
 intro w;unfold zVi zE7 at HC;unfold yF5 at HF;have KA:=zC HA;have KB:=zC HB;have KC:=zC HC;have KF:=zC HF;clear HA HB HC HF;go_in;go_wp2_with fail;refine(KA.out _).mono ?_;rintro e w1 ⟨rfl,rfl⟩;go_wp2_with fail;refine(KB.out _).mono ?_;rintro e w1 ⟨rfl,rfl⟩;go_wp2_with fail;refine(KC.out _).mono ?_;rintro e w1 ⟨rfl,hb⟩;go_wp2_with fail;refine(KF.out _).mono ?_;rintro e w2 ⟨rfl,hq⟩;replace hb:=hb.trans (hq.mono hb.size);clear hq;go_wp2_with fail;go_ret2;exact⟨rfl,hb⟩
theorem yK5 (a b:ByteArray) (c:Int) (HA:yTj a true) (HB:yTj b true) (HC:zVi a b c) (d:ByteArray) (ec:Int) (HF:yF5 133 a b d ec):yC5 ⟨#[33]⟩ a b d ec:=by
 intro w;unfold zVi zE7 at HC;unfold yF5 at HF;have KA:=zC HA;have KB:=zC HB;have KC:=zC HC;have KF:=zC HF;clear HA HB HC HF;go_in;go_wp2_with fail;refine(KA.out _).mono ?_;rintro e w1 ⟨rfl,rfl⟩;go_wp2_with fail;refine(KB.out _).mono ?_;rintro e w1 ⟨rfl,rfl⟩;go_wp2_with fail;refine(KC.out _).mono ?_;rintro e w1 ⟨rfl,hb⟩;go_wp2_with fail;refine(KF.out _).mono ?_;rintro e w2 ⟨rfl,hq⟩;replace hb:=hb.trans (hq.mono hb.size);clear hq;go_wp2_with fail;go_ret2;exact⟨rfl,hb⟩
theorem yL5 (a b:ByteArray) (c:Int) (HA:yTj a true) (HB:yTj b true) (HC:zVi a b c) (hc9:c= -1∨c=0∨c=1) (hc:c<0) (d:ByteArray) (HF:yE5 true d):yC5 ⟨#[60]⟩ a b d 0:=by
 intro w;unfold zVi zE7 at HC;unfold yE5 at HF;have KA:=zC HA;have KB:=zC HB;have KC:=zC HC;have KF:=zC HF;clear HA HB HC HF;rcases hc9 with rfl|rfl|rfl
 all_goals first|exact absurd hc yCn|clear hc
 all_goals
  go_in;go_wp2_with fail;refine(KA.out _).mono ?_;rintro e w1 ⟨rfl,rfl⟩;go_wp2_with fail;refine(KB.out _).mono ?_;rintro e w1 ⟨rfl,rfl⟩;go_wp2_with fail;refine(KC.out _).mono ?_;rintro e w1 ⟨rfl,hb⟩;go_wp2_with fail;refine(KF.out _).mono ?_;rintro e w1 ⟨rfl,rfl⟩;go_wp2_with fail;go_ret2;exact⟨rfl,hb⟩
theorem yM5 (a b:ByteArray) (c:Int) (HA:yTj a true) (HB:yTj b true) (HC:zVi a b c) (hc9:c= -1∨c=0∨c=1) (hc:¬c<0) (d:ByteArray) (HF:yE5 false d):yC5 ⟨#[60]⟩ a b d 0:=by
 intro w;unfold zVi zE7 at HC;unfold yE5 at HF;have KA:=zC HA;have KB:=zC HB;have KC:=zC HC;have KF:=zC HF;clear HA HB HC HF;rcases hc9 with rfl|rfl|rfl
 all_goals first|exact absurd hc yCn|clear hc
 all_goals
  go_in;go_wp2_with fail;refine(KA.out _).mono ?_;rintro e w1 ⟨rfl,rfl⟩;go_wp2_with fail;refine(KB.out _).mono ?_;rintro e w1 ⟨rfl,rfl⟩;go_wp2_with fail;refine(KC.out _).mono ?_;rintro e w1 ⟨rfl,hb⟩;go_wp2_with fail;refine(KF.out _).mono ?_;rintro e w1 ⟨rfl,rfl⟩;go_wp2_with fail;go_ret2;exact⟨rfl,hb⟩
theorem yN5 (a b:ByteArray) (c:Int) (HA:yTj a true) (HB:yTj b true) (HC:zVi a b c) (hc9:c= -1∨c=0∨c=1) (hc:0<c) (d:ByteArray) (HF:yE5 true d):yC5 ⟨#[62]⟩ a b d 0:=by
 intro w;unfold zVi zE7 at HC;unfold yE5 at HF;have KA:=zC HA;have KB:=zC HB;have KC:=zC HC;have KF:=zC HF;clear HA HB HC HF;rcases hc9 with rfl|rfl|rfl
 all_goals first|exact absurd hc yCn|clear hc
 all_goals
  go_in;go_wp2_with fail;refine(KA.out _).mono ?_;rintro e w1 ⟨rfl,rfl⟩;go_wp2_with fail;refine(KB.out _).mono ?_;rintro e w1 ⟨rfl,rfl⟩;go_wp2_with fail;refine(KC.out _).mono ?_;rintro e w1 ⟨rfl,hb⟩;go_wp2_with fail;refine(KF.out _).mono ?_;rintro e w1 ⟨rfl,rfl⟩;go_wp2_with fail;go_ret2;exact⟨rfl,hb⟩
theorem yO5 (a b:ByteArray) (c:Int) (HA:yTj a true) (HB:yTj b true) (HC:zVi a b c) (hc9:c= -1∨c=0∨c=1) (hc:¬0<c) (d:ByteArray) (HF:yE5 false d):yC5 ⟨#[62]⟩ a b d 0:=by
 intro w;unfold zVi zE7 at HC;unfold yE5 at HF;have KA:=zC HA;have KB:=zC HB;have KC:=zC HC;have KF:=zC HF;clear HA HB HC HF;rcases hc9 with rfl|rfl|rfl
 all_goals first|exact absurd hc yCn|clear hc
 all_goals
  go_in;go_wp2_with fail;refine(KA.out _).mono ?_;rintro e w1 ⟨rfl,rfl⟩;go_wp2_with fail;refine(KB.out _).mono ?_;rintro e w1 ⟨rfl,rfl⟩;go_wp2_with fail;refine(KC.out _).mono ?_;rintro e w1 ⟨rfl,hb⟩;go_wp2_with fail;refine(KF.out _).mono ?_;rintro e w1 ⟨rfl,rfl⟩;go_wp2_with fail;go_ret2;exact⟨rfl,hb⟩
theorem yP5 (a b:ByteArray) (c:Int) (HA:yTj a true) (HB:yTj b true) (HC:zVi a b c) (hc9:c= -1∨c=0∨c=1) (hc:c=0) (d:ByteArray) (HF:yE5 true d):yC5 ⟨#[61]⟩ a b d 0:=by
 intro w;unfold zVi zE7 at HC;unfold yE5 at HF;have KA:=zC HA;have KB:=zC HB;have KC:=zC HC;have KF:=zC HF;clear HA HB HC HF;rcases hc9 with rfl|rfl|rfl
 all_goals first|exact absurd hc yCn|clear hc
 all_goals
  go_in;go_wp2_with fail;refine(KA.out _).mono ?_;rintro e w1 ⟨rfl,rfl⟩;go_wp2_with fail;refine(KB.out _).mono ?_;rintro e w1 ⟨rfl,rfl⟩;go_wp2_with fail;refine(KC.out _).mono ?_;rintro e w1 ⟨rfl,hb⟩;go_wp2_with fail;refine(KF.out _).mono ?_;rintro e w1 ⟨rfl,rfl⟩;go_wp2_with fail;go_ret2;exact⟨rfl,hb⟩
theorem yQ5 (a b:ByteArray) (c:Int) (HA:yTj a true) (HB:yTj b true) (HC:zVi a b c) (hc9:c= -1∨c=0∨c=1) (hc:¬c=0) (d:ByteArray) (HF:yE5 false d):yC5 ⟨#[61]⟩ a b d 0:=by
 intro w;unfold zVi zE7 at HC;unfold yE5 at HF;have KA:=zC HA;have KB:=zC HB;have KC:=zC HC;have KF:=zC HF;clear HA HB HC HF;rcases hc9 with rfl|rfl|rfl
 all_goals first|exact absurd hc yCn|clear hc
 all_goals
  go_in;go_wp2_with fail;refine(KA.out _).mono ?_;rintro e w1 ⟨rfl,rfl⟩;go_wp2_with fail;refine(KB.out _).mono ?_;rintro e w1 ⟨rfl,rfl⟩;go_wp2_with fail;refine(KC.out _).mono ?_;rintro e w1 ⟨rfl,hb⟩;go_wp2_with fail;refine(KF.out _).mono ?_;rintro e w1 ⟨rfl,rfl⟩;go_wp2_with fail;go_ret2;exact⟨rfl,hb⟩
theorem yR5 (a b:ByteArray) (c:Int) (HA:yTj a true) (HB:yTj b true) (HC:zVi a b c) (hc9:c= -1∨c=0∨c=1) (hc:¬c=0) (d:ByteArray) (HF:yE5 true d):yC5 ⟨#[126]⟩ a b d 0:=by
 intro w;unfold zVi zE7 at HC;unfold yE5 at HF;have KA:=zC HA;have KB:=zC HB;have KC:=zC HC;have KF:=zC HF;clear HA HB HC HF;rcases hc9 with rfl|rfl|rfl
 all_goals first|exact absurd hc yCn|clear hc
 all_goals
  go_in;go_wp2_with fail;refine(KA.out _).mono ?_;rintro e w1 ⟨rfl,rfl⟩;go_wp2_with fail;refine(KB.out _).mono ?_;rintro e w1 ⟨rfl,rfl⟩;go_wp2_with fail;refine(KC.out _).mono ?_;rintro e w1 ⟨rfl,hb⟩;go_wp2_with fail;refine(KF.out _).mono ?_;rintro e w1 ⟨rfl,rfl⟩;go_wp2_with fail;go_ret2;exact⟨rfl,hb⟩
theorem yS5 (a b:ByteArray) (c:Int) (HA:yTj a true) (HB:yTj b true) (HC:zVi a b c) (hc9:c= -1∨c=0∨c=1) (hc:c=0) (d:ByteArray) (HF:yE5 false d):yC5 ⟨#[126]⟩ a b d 0:=by
 intro w;unfold zVi zE7 at HC;unfold yE5 at HF;have KA:=zC HA;have KB:=zC HB;have KC:=zC HC;have KF:=zC HF;clear HA HB HC HF;rcases hc9 with rfl|rfl|rfl
 all_goals first|exact absurd hc yCn|clear hc
 all_goals
  go_in;go_wp2_with fail;refine(KA.out _).mono ?_;rintro e w1 ⟨rfl,rfl⟩;go_wp2_with fail;refine(KB.out _).mono ?_;rintro e w1 ⟨rfl,rfl⟩;go_wp2_with fail;refine(KC.out _).mono ?_;rintro e w1 ⟨rfl,hb⟩;go_wp2_with fail;refine(KF.out _).mono ?_;rintro e w1 ⟨rfl,rfl⟩;go_wp2_with fail;go_ret2;exact⟨rfl,hb⟩
theorem yT5 (a b:ByteArray) (c:Int) (HA:yTj a true) (HB:yTj b true) (HC:zVi a b c) (hc:c<0):yC5 ⟨#[38]⟩ a b a 0:=by
 intro w;unfold zVi zE7 at HC;have KA:=zC HA;have KB:=zC HB;have KC:=zC HC;clear HA HB HC;go_in;go_wp2_with fail;refine(KA.out _).mono ?_;rintro e w1 ⟨rfl,rfl⟩;go_wp2_with fail;refine(KB.out _).mono ?_;rintro e w1 ⟨rfl,rfl⟩;go_wp2_with fail;refine(KC.out _).mono ?_;rintro e w1 ⟨rfl,hb⟩;go_wp2_with fail;go_ret2;exact⟨rfl,hb⟩
theorem yU5 (a b:ByteArray) (c:Int) (HA:yTj a true) (HB:yTj b true) (HC:zVi a b c) (hc:¬c<0):yC5 ⟨#[38]⟩ a b b 0:=by
 intro w;unfold zVi zE7 at HC;have KA:=zC HA;have KB:=zC HB;have KC:=zC HC;clear HA HB HC;go_in;go_wp2_with fail;refine(KA.out _).mono ?_;rintro e w1 ⟨rfl,rfl⟩;go_wp2_with fail;refine(KB.out _).mono ?_;rintro e w1 ⟨rfl,rfl⟩;go_wp2_with fail;refine(KC.out _).mono ?_;rintro e w1 ⟨rfl,hb⟩;go_wp2_with fail;go_ret2;exact⟨rfl,hb⟩
theorem yV5 (a b:ByteArray) (c:Int) (HA:yTj a true) (HB:yTj b true) (HC:zVi a b c) (hc:0<c):yC5 ⟨#[124]⟩ a b a 0:=by
 intro w;unfold zVi zE7 at HC;have KA:=zC HA;have KB:=zC HB;have KC:=zC HC;clear HA HB HC;go_in;go_wp2_with fail;refine(KA.out _).mono ?_;rintro e w1 ⟨rfl,rfl⟩;go_wp2_with fail;refine(KB.out _).mono ?_;rintro e w1 ⟨rfl,rfl⟩;go_wp2_with fail;refine(KC.out _).mono ?_;rintro e w1 ⟨rfl,hb⟩;go_wp2_with fail;go_ret2;exact⟨rfl,hb⟩
theorem yW5 (a b:ByteArray) (c:Int) (HA:yTj a true) (HB:yTj b true) (HC:zVi a b c) (hc:¬0<c):yC5 ⟨#[124]⟩ a b b 0:=by
 intro w;unfold zVi zE7 at HC;have KA:=zC HA;have KB:=zC HB;have KC:=zC HC;clear HA HB HC;go_in;go_wp2_with fail;refine(KA.out _).mono ?_;rintro e w1 ⟨rfl,rfl⟩;go_wp2_with fail;refine(KB.out _).mono ?_;rintro e w1 ⟨rfl,rfl⟩;go_wp2_with fail;refine(KC.out _).mono ?_;rintro e w1 ⟨rfl,hb⟩;go_wp2_with fail;go_ret2;exact⟨rfl,hb⟩
theorem yX5 (op a b:ByteArray) (c:Int) (HA:yTj a true) (HB:yTj b true) (HC:zVi a b c) (g0:(op.toList==[43])=false) (g1:(op.toList==[45])=false) (g2:(op.toList==[42])=false) (g3:(op.toList==[37])=false) (g4:(op.toList==[33])=false) (g5:(op.toList==[38])=false) (g6:(op.toList==[124])=false) (g7:(op.toList==[60])=false) (g8:(op.toList==[62])=false) (g9:(op.toList==[61])=false) (g10:(op.toList==[126])=false):yC5 op a b ⟨#[]⟩ 1:=by
 intro w;unfold zVi zE7 at HC;have KA:=zC HA;have KB:=zC HB;have KC:=zC HC;clear HA HB HC;go_in;go_wp2_with fail;refine(KA.out _).mono ?_;rintro e w1 ⟨rfl,rfl⟩;go_wp2_with fail;refine(KB.out _).mono ?_;rintro e w1 ⟨rfl,rfl⟩;go_wp2_with fail;refine(KC.out _).mono ?_;rintro e w1 ⟨rfl,hb⟩;go_wp2_with fail;go_ret2;exact⟨rfl,hb⟩
theorem yY5 (op a b:ByteArray) (u v:Bool) (hn:(u&&v)=false) (HA:yTj a u) (HB:yTj b v):yC5 op a b ⟨#[]⟩ 1:=by
 intro w;have KA:=zC HA;have KB:=zC HB;clear HA HB;cases u with
 |false=>
  go_in;go_wp2_with fail;refine(KA.out _).mono ?_;rintro e w1 ⟨rfl,rfl⟩;go_wp2_with fail;go_ret2;exact⟨rfl,zI _ _⟩
 |true=>
  cases v with
  |false=>
   go_in;go_wp2_with fail;refine(KA.out _).mono ?_;rintro e w1 ⟨rfl,rfl⟩;go_wp2_with fail;refine(KB.out _).mono ?_;rintro e w1 ⟨rfl,rfl⟩;go_wp2_with fail;go_ret2;exact⟨rfl,zI _ _⟩
  |true=>exact absurd hn yCn
theorem yZ5 {s:ByteArray} {l:List UInt8} (h:s.data.toList=l):s=⟨l.toArray⟩:=toList_inj (by rw[xAe,xAe,h])
theorem xA5 {op s t:ByteArray} {o p:Option Int} (hs:Is s o) (ht:Is t p):yC5 op s t (T (dyO (kdL op.data.toList) o p).1) (dyO (kdL op.data.toList) o p).2:=by
 cases hn:(o.isSome&&p.isSome)
 · rw[yA7 hn]
   exact yY5 op s t _ _ hn (xRj hs) (xRj ht)
 cases o with
 |none=>cases hn
 |some x=>
 cases p with
 |none=>cases hn
 |some y=>
 have HA:yTj s true:=xRj hs;have HB:yTj t true:=xRj ht;have HC:zVi s t (xKa x y):=zZi hs ht;have c1:xKa x y<0↔x<y:=by unfold xKa;(repeat' split)<;>omega
 have c2:0<xKa x y↔y<x:=by unfold xKa;(repeat' split)<;>omega
 have c3:xKa x y=0↔x=y:=by unfold xKa;(repeat' split)<;>omega
 have c9:xKa x y= -1∨xKa x y=0∨xKa x y=1:=by unfold xKa;(repeat' split)<;>omega
 obtain⟨k,hk⟩:∃k,kdL op.data.toList=k:=⟨_,rfl⟩
 rw[hk];rcases xOk hk with⟨rfl,h⟩|⟨rfl,h⟩|⟨rfl,h⟩|⟨rfl,h⟩|⟨rfl,h⟩|⟨rfl,h⟩|⟨rfl,h⟩|⟨rfl,h⟩|⟨rfl,h⟩|⟨rfl,h⟩|⟨rfl,h⟩|⟨rfl,h0,h1,h2,h3,h4,h5,h6,h7,h8,h9,h10⟩
 · rw[yZ5 h];exact yG5 s t _ HA HB HC _ _ fun w=>zFk w hs ht
 · rw[yZ5 h];exact yH5 s t _ HA HB HC _ _ fun w=>zGk w hs ht
 · rw[yZ5 h];exact yI5 s t _ HA HB HC _ _ fun w=>zHk w hs ht
 · rw[yZ5 h];exact yJ5 s t _ HA HB HC _ _ fun w=>zIk w hs ht
 · rw[yZ5 h];exact yK5 s t _ HA HB HC _ _ fun w=>zJk w hs ht
 · rw[yZ5 h]
   show yC5 _ _ _ (S (if x≤y then x else y)) 0;by_cases hc:x<y
   · rw[yA yEn,←hs.1];exact yT5 s t _ HA HB HC (c1.2 hc)
   · have e:(if x≤y then x else y)=y:=by split<;>omega
     rw[e,←ht.1];exact yU5 s t _ HA HB HC (fun h=>hc (c1.1 h))
 · rw[yZ5 h]
   show yC5 _ _ _ (S (if x≤y then y else x)) 0;by_cases hc:y<x
   · rw[zY yEn,←hs.1];exact yV5 s t _ HA HB HC (c2.2 hc)
   · rw[yA yEn,←ht.1];exact yW5 s t _ HA HB HC (fun h=>hc (c2.1 h))
 · rw[yZ5 h]
   show yC5 _ _ _ (S (bI (decide (x<y)))) 0;by_cases hc:x<y
   · rw[yI0 hc];exact yL5 s t _ HA HB HC c9 (c1.2 hc) _ fun w=>yB5 true w
   · rw[yG0 hc];exact yM5 s t _ HA HB HC c9 (fun h=>hc (c1.1 h)) _ fun w=>yB5 false w
 · rw[yZ5 h]
   show yC5 _ _ _ (S (bI (decide (y<x)))) 0;by_cases hc:y<x
   · rw[yI0 hc];exact yN5 s t _ HA HB HC c9 (c2.2 hc) _ fun w=>yB5 true w
   · rw[yG0 hc];exact yO5 s t _ HA HB HC c9 (fun h=>hc (c2.1 h)) _ fun w=>yB5 false w
 · rw[yZ5 h]
   show yC5 _ _ _ (S (bI (decide (x=y)))) 0;by_cases hc:x=y
   · rw[yI0 hc];exact yP5 s t _ HA HB HC c9 (c3.2 hc) _ fun w=>yB5 true w
   · rw[yG0 hc];exact yQ5 s t _ HA HB HC c9 (fun h=>hc (c3.1 h)) _ fun w=>yB5 false w
 · rw[yZ5 h]
   show yC5 _ _ _ (S (bI (!decide (x=y)))) 0;by_cases hc:x=y
   · rw[yI0 hc];exact yS5 s t _ HA HB HC c9 (c3.2 hc) _ fun w=>yB5 false w
   · rw[yG0 hc];exact yR5 s t _ HA HB HC c9 (fun h=>hc (c3.1 h)) _ fun w=>yB5 true w
 · exact yX5 op s t _ HA HB HC (by rw[xAe];exact zT0.2 h0) (by rw[xAe];exact zT0.2 h1) (by rw[xAe];exact zT0.2 h2) (by rw[xAe];exact zT0.2 h3) (by rw[xAe];exact zT0.2 h4) (by rw[xAe];exact zT0.2 h5) (by rw[xAe];exact zT0.2 h6) (by rw[xAe];exact zT0.2 h7) (by rw[xAe];exact zT0.2 h8) (by rw[xAe];exact zT0.2 h9) (by rw[xAe];exact zT0.2 h10)
theorem xB5 (a:ByteArray) (HA:yTj a true) (d:ByteArray) (HF:∀w,Calls Tryz.prog 111 #[.string a] w fun e w'=>e=.returned (.string d)∧w=w'):yD5 ⟨#[45]⟩ a d 0:=by
 intro w;have KA:=zC HA;have KF:=zC HF;clear HA HF;go_in;go_wp2_with fail;refine(KA.out _).mono ?_;rintro e w1 ⟨rfl,rfl⟩;go_wp2_with fail;refine(KF.out _).mono ?_;rintro e w1 ⟨rfl,rfl⟩;go_wp2_with fail;go_ret2;exact⟨rfl,zI _ _⟩
theorem xC5 (a:ByteArray) (HA:yTj a true) (z:Bool) (hz:(a.toList==[48])=z) (d:ByteArray) (HF:yE5 z d):yD5 ⟨#[126]⟩ a d 0:=by
 intro w;unfold yE5 at HF;have KA:=zC HA;have KF:=zC HF;clear HA HF;go_in;go_wp2_with fail;refine(KA.out _).mono ?_;rintro e w1 ⟨rfl,rfl⟩;go_wp2_with fail;refine(KF.out _).mono ?_;rintro e w1 ⟨rfl,rfl⟩;go_wp2_with fail;go_ret2;exact⟨rfl,zI _ _⟩
theorem xD5 (a:ByteArray) (HA:yTj a true) (z:Int) (gz: -1≤z∧z≤1) (d:ByteArray) (HS:zLi a z) (HO:yGi z d):yD5 ⟨#[42]⟩ a d 0:=by
 intro w;unfold zLi at HS;unfold yGi yAj at HO;have KA:=zC HA;have KS:=zC HS;have KO:=zC HO;clear HA HS HO;go_in;go_wp2_with fail;refine(KA.out _).mono ?_;rintro e w1 ⟨rfl,rfl⟩;go_wp2_with fail;refine(KS.out _).mono ?_;rintro e w1 ⟨rfl,rfl⟩;go_wp2_with fail;refine(KO.out _).mono ?_;rintro e w1 ⟨rfl,hb⟩;go_wp2_with fail;go_ret2;exact⟨rfl,hb⟩
theorem xE5 (op a:ByteArray) (HA:yTj a true) (g0:(op.toList==[45])=false) (g1:(op.toList==[126])=false) (g2:(op.toList==[42])=false):yD5 op a ⟨#[]⟩ 1:=by
 intro w;have KA:=zC HA;clear HA;go_in;go_wp2_with fail;refine(KA.out _).mono ?_;rintro e w1 ⟨rfl,rfl⟩;go_wp2_with fail;go_ret2;exact⟨rfl,zI _ _⟩
theorem xF5 (op a:ByteArray) (HA:yTj a false):yD5 op a ⟨#[]⟩ 1:=by
 intro w;have KA:=zC HA;clear HA;go_in;go_wp2_with fail;refine(KA.out _).mono ?_;rintro e w1 ⟨rfl,rfl⟩;go_wp2_with fail;go_ret2;exact⟨rfl,zI _ _⟩
theorem xG5 (x:Int): -1≤x.sign∧x.sign≤1:=by
 rcases zY1 x 0 with h|h|h
 · rw[zZ1 h];decide
 · subst h;decide
 · rw[yA1 h];decide
theorem xH5 {op s:ByteArray} {o:Option Int} (hs:Is s o):yD5 op s (T (mnO (kmL op.data.toList) o).1) (mnO (kmL op.data.toList) o).2:=by
 cases o with
 |none=>exact xF5 op s (xRj hs)
 |some x=>
 have HA:yTj s true:=xRj hs;obtain⟨k,hk⟩:∃k,kmL op.data.toList=k:=⟨_,rfl⟩
 rw[hk];rcases xPk hk with⟨rfl,h⟩|⟨rfl,h⟩|⟨rfl,h⟩|⟨rfl,h0,h1,h2⟩
 · rw[yZ5 h];exact xB5 s HA _ fun w=>zQi w hs
 · rw[yZ5 h];exact xC5 s HA _ (yA5 hs) _ fun w=>yB5 _ w
 · rw[yZ5 h]
   have hb:=xG5 x;exact xD5 s HA x.sign hb _ (zOi hs) (yQi (by unfold I64;omega))
 · exact xE5 op s HA (by rw[xAe];exact zT0.2 h0) (by rw[xAe];exact zT0.2 h1) (by rw[xAe];exact zT0.2 h2)
end
section
open Go.RowKit
theorem xI5 {a b:Option Addr} {n c m d:Nat} {l:List Int} {es:List ByteArray} (W:World) (h:Vl W a n b m l es) (i:Nat) (hi:(if nx l then 0 else i)<m):
 Calls Tryz.prog 89 #[.agg #[.slice a n c,.slice b m d],.int .i64 i] W (yG8 (es.getD (if nx l then 0 else i) ByteArray.empty) W):=by
 have hx:=Bx.new W a n c b m d;have hbl:Below W.heap.size W (W.alloc (.cells #[.slice a n c,.slice b m d] 25)):=(zI _ _).alloc (zR _) _;have hv:=h.below hbl;have hmm:=h.mm;obtain⟨gb,off,rfl,hc⟩:=hv.t.2 yEn;have hck:=hc _ hi;have hln:=h.s.1;have x0:=hx.c0;have x1:=hx.c1;have HB:=zC hbl;by_cases h0:n=0
 · subst h0
   obtain rfl:=yO0.1 hln;have e:(if nx []then 0 else i)=0:=rfl;rw[e]at hck hi ⊢;rw[xB]at hck;generalize es.getD 0 ByteArray.empty=s at hck ⊢;clear hv h hc hln hbl hx e;go_in;go_wp2_with fail;go_ret;exact⟨rfl,HB.out⟩
 · have e:(if nx l then 0 else i)=i:=by
    have:nx l=false:=yG0 (by rintro rfl;exact h0 hln.symm);rw[this];rfl
   rw[e]at hck hi ⊢;generalize es.getD i ByteArray.empty=s at hck ⊢;have e1:¬(n:Int)=0:=by omega
   have e1':((n:Int)==0)=false:=zT0.2 e1;have e2:(i:Int)<(m:Int):=by omega
   clear hv h hc hln hbl hx e;go_in;go_wp2_with fail;go_ret;exact⟨rfl,HB.out⟩
abbrev sgT:ByteArray:=⟨#[43,45,42,37,33,38,124,60,62,61,126]⟩
theorem xJ5 (i:Nat) (h:i<11):sgT.extract i (i+1)=dS i:=by
 obtain rfl|rfl|rfl|rfl|rfl|rfl|rfl|rfl|rfl|rfl|rfl:i=0∨i=1∨i=2∨i=3∨i=4∨i=5∨i=6∨i=7∨i=8∨i=9∨i=10:=by omega
 all_goals rfl
theorem xK5 {op:ByteArray} (h:∀j,j<11→op≠dS j):decide (kdL op.data.toList<11)=false:=by
 refine yG0 fun hk=> ?_;exact h _ hk (zCl rfl hk).symm
theorem xL5 {op:ByteArray} {i:Nat} (hi:i<11) (h:op=dS i):decide (kdL op.data.toList<11)=true:=by
 rw[h,zAl i hi];exact yI0 hi
theorem xM5 (op:ByteArray) (w:World):Calls Tryz.prog 38 #[.string op] w fun e w'=>e=.returned (.bool (decide (kdL op.data.toList<11)))∧w=w':=by
 obtain⟨v,hv⟩:∃v,v=decide (kdL op.data.toList<11):=⟨_,rfl⟩
 rw[←hv];have HV:=zC hv;have hsz:sgT.size=11:=rfl;clear hv;go_in;go_wp2_with fail;go_loop [4] (fun iv=>∃i:Nat,iv=.int .i64 i∧i≤11∧∀j,j<i→op≠dS j) (fun iv=>11-(intOf iv).toNat)
 case atStart=>exact⟨0,rfl,by omega,fun j hj=>by omega⟩
 case round=>
  obtain⟨i,rfl,hi,hno⟩:=hrel;have HN:=zC hno;clear hno;by_cases hlt:i<11
  · have e2:(i:Int)<11:=by omega
    have hx:=xJ5 i hlt;have e3:i+1≤11:=by omega
    by_cases hop:op=dS i
    · obtain rfl:v=true:=HV.out.trans (xL5 hlt hop)
      have h1:op.toList=(dS i).toList:=by rw[hop]
      generalize dS i=s at*;clear hop;go_wp2_with fail;go_ret;exact⟨rfl,rfl⟩
    · have h1:(op.toList==(dS i).toList)=false:=zT0.2 fun e=>hop (toList_inj e)
      have HO:=zC hop;have HXX:Hid (dS i=dS i):=zC rfl;clear hop;go_wp2_with fail;go_round
      case rel=>exact⟨i+1,by go_num,by omega,fun j hj=>by
       rcases zM1 j i with h|h
       · exact HN.out j h
       · rw[show j=i by omega];exact HO.out⟩
      case measure=>simp[intOf];omega
  · have e2:¬(i:Int)<11:=by omega
    obtain rfl:i=11:=by omega
    obtain rfl:v=false:=HV.out.trans (xK5 HN.out);go_wp2_with fail;go_ret;exact⟨rfl,rfl⟩
end
end Go.Proofs.YtcfbjdplhgdpfaaGreatDoor

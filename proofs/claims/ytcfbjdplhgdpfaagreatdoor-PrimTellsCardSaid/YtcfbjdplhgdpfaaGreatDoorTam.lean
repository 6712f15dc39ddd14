import Derived.Test.YtcfbjdplhgdpfaaGreatDoorTal
set_option maxHeartbeats 3200000
set_option maxRecDepth 10000
namespace Go.Proofs.YtcfbjdplhgdpfaaGreatDoor
set_option linter.unusedVariables false
set_option linter.unusedSimpArgs false
section
open Go.RowKit Go.Maps
def yP6 (F:FuncId) (a b d:ByteArray):Prop:=∀w,Calls Tryz.prog F #[.string a,.string b] w fun e w'=>e=.returned (.string d)∧Below w.heap.size w w'
def yQ6 (F:FuncId) (a d:ByteArray):Prop:=∀w,SC w→Calls Tryz.prog F #[.string a] w fun e w'=>e=.returned (.string d)∧Below w.heap.size w w'
def yR6 (F:FuncId) (a b d:ByteArray) (ec:Int):Prop:=∀w,SC w→Calls Tryz.prog F #[.string a,.string b] w fun e w'=>e=.returned (.tuple #[.string d,.int .i64 ec])∧Below w.heap.size w w'
theorem yS6 {op:ByteArray} {l:List UInt8} (h:op.data.toList=l):op=⟨l.toArray⟩:=by
 obtain⟨⟨d⟩⟩:=op;have h:d=l:=h;subst h;rfl
def yT6 (b:Bool) (d:ByteArray):Prop:=∀w,Calls Tryz.prog 197 #[.bool b] w fun e w'=>e=.returned (.string d)∧w=w'
theorem yU6:yT6 false ⟨#[48]⟩:=by
 intro w;go_in;go_wp2_with fail;go_ret;exact⟨rfl,rfl⟩
theorem yV6:yT6 true ⟨#[49]⟩:=by
 intro w;go_in;go_wp2_with fail;go_ret;exact⟨rfl,rfl⟩
theorem yW6 (a b d:ByteArray) (c:Int) (HC:xGk a b c) (hd:(c<0∧d=a)∨(¬c<0∧d=b)):yP6 205 a b d:=by
 intro w;unfold xGk xFe at HC;have KC:=zC HC;clear HC;rcases hd with⟨hc,rfl⟩|⟨hc,rfl⟩
 · go_in
   go_wp2_with fail;refine(KC.out _).mono ?_;rintro e w1 ⟨rfl,hb⟩;go_wp2_with fail;go_ret;exact⟨rfl,hb⟩
 · go_in
   go_wp2_with fail;refine(KC.out _).mono ?_;rintro e w1 ⟨rfl,hb⟩;go_wp2_with fail;go_ret;exact⟨rfl,hb⟩
theorem yX6 (a b d:ByteArray) (c:Int) (HC:xGk a b c) (hd:(0<c∧d=a)∨(¬0<c∧d=b)):yP6 206 a b d:=by
 intro w;unfold xGk xFe at HC;have KC:=zC HC;clear HC;rcases hd with⟨hc,rfl⟩|⟨hc,rfl⟩
 · go_in
   go_wp2_with fail;refine(KC.out _).mono ?_;rintro e w1 ⟨rfl,hb⟩;go_wp2_with fail;go_ret;exact⟨rfl,hb⟩
 · go_in
   go_wp2_with fail;refine(KC.out _).mono ?_;rintro e w1 ⟨rfl,hb⟩;go_wp2_with fail;go_ret;exact⟨rfl,hb⟩
theorem yY6 (a b d:ByteArray) (c:Int) (HC:xGk a b c) (hd:(c= -1∧d=⟨#[49]⟩)∨(c=0∧d=⟨#[48]⟩)∨(c=1∧d=⟨#[48]⟩)):yP6 207 a b d:=by
 intro w;unfold xGk xFe at HC;have KC:=zC HC;have Kt:=zC yV6;have Kf:=zC yU6;clear HC;rcases hd with⟨rfl,rfl⟩|⟨rfl,rfl⟩|⟨rfl,rfl⟩
 · go_in
   go_wp2_with fail;refine(KC.out _).mono ?_;rintro e w1 ⟨rfl,hb⟩;go_wp2_with fail;refine(Kt.out _).mono ?_;rintro e w2 ⟨rfl,rfl⟩;go_wp2_with fail;go_ret;exact⟨rfl,hb⟩
 · go_in
   go_wp2_with fail;refine(KC.out _).mono ?_;rintro e w1 ⟨rfl,hb⟩;go_wp2_with fail;refine(Kf.out _).mono ?_;rintro e w2 ⟨rfl,rfl⟩;go_wp2_with fail;go_ret;exact⟨rfl,hb⟩
 · go_in
   go_wp2_with fail;refine(KC.out _).mono ?_;rintro e w1 ⟨rfl,hb⟩;go_wp2_with fail;refine(Kf.out _).mono ?_;rintro e w2 ⟨rfl,rfl⟩;go_wp2_with fail;go_ret;exact⟨rfl,hb⟩
theorem yZ6 (a b d:ByteArray) (c:Int) (HC:xGk a b c) (hd:(c= -1∧d=⟨#[48]⟩)∨(c=0∧d=⟨#[48]⟩)∨(c=1∧d=⟨#[49]⟩)):yP6 209 a b d:=by
 intro w;unfold xGk xFe at HC;have KC:=zC HC;have Kt:=zC yV6;have Kf:=zC yU6;clear HC;rcases hd with⟨rfl,rfl⟩|⟨rfl,rfl⟩|⟨rfl,rfl⟩
 · go_in
   go_wp2_with fail;refine(KC.out _).mono ?_;rintro e w1 ⟨rfl,hb⟩;go_wp2_with fail;refine(Kf.out _).mono ?_;rintro e w2 ⟨rfl,rfl⟩;go_wp2_with fail;go_ret;exact⟨rfl,hb⟩
 · go_in
   go_wp2_with fail;refine(KC.out _).mono ?_;rintro e w1 ⟨rfl,hb⟩;go_wp2_with fail;refine(Kf.out _).mono ?_;rintro e w2 ⟨rfl,rfl⟩;go_wp2_with fail;go_ret;exact⟨rfl,hb⟩
 · go_in
   go_wp2_with fail;refine(KC.out _).mono ?_;rintro e w1 ⟨rfl,hb⟩;go_wp2_with fail;refine(Kt.out _).mono ?_;rintro e w2 ⟨rfl,rfl⟩;go_wp2_with fail;go_ret;exact⟨rfl,hb⟩
theorem xA6 (a b d:ByteArray) (c:Int) (HC:xGk a b c) (hd:(c= -1∧d=⟨#[48]⟩)∨(c=0∧d=⟨#[49]⟩)∨(c=1∧d=⟨#[48]⟩)):yP6 210 a b d:=by
 intro w;unfold xGk xFe at HC;have KC:=zC HC;have Kt:=zC yV6;have Kf:=zC yU6;clear HC;rcases hd with⟨rfl,rfl⟩|⟨rfl,rfl⟩|⟨rfl,rfl⟩
 · go_in
   go_wp2_with fail;refine(KC.out _).mono ?_;rintro e w1 ⟨rfl,hb⟩;go_wp2_with fail;refine(Kf.out _).mono ?_;rintro e w2 ⟨rfl,rfl⟩;go_wp2_with fail;go_ret;exact⟨rfl,hb⟩
 · go_in
   go_wp2_with fail;refine(KC.out _).mono ?_;rintro e w1 ⟨rfl,hb⟩;go_wp2_with fail;refine(Kt.out _).mono ?_;rintro e w2 ⟨rfl,rfl⟩;go_wp2_with fail;go_ret;exact⟨rfl,hb⟩
 · go_in
   go_wp2_with fail;refine(KC.out _).mono ?_;rintro e w1 ⟨rfl,hb⟩;go_wp2_with fail;refine(Kf.out _).mono ?_;rintro e w2 ⟨rfl,rfl⟩;go_wp2_with fail;go_ret;exact⟨rfl,hb⟩
theorem xB6 (a b d:ByteArray) (c:Int) (HC:xGk a b c) (hd:(c= -1∧d=⟨#[49]⟩)∨(c=0∧d=⟨#[48]⟩)∨(c=1∧d=⟨#[49]⟩)):yP6 211 a b d:=by
 intro w;unfold xGk xFe at HC;have KC:=zC HC;have Kt:=zC yV6;have Kf:=zC yU6;clear HC;rcases hd with⟨rfl,rfl⟩|⟨rfl,rfl⟩|⟨rfl,rfl⟩
 · go_in
   go_wp2_with fail;refine(KC.out _).mono ?_;rintro e w1 ⟨rfl,hb⟩;go_wp2_with fail;refine(Kt.out _).mono ?_;rintro e w2 ⟨rfl,rfl⟩;go_wp2_with fail;go_ret;exact⟨rfl,hb⟩
 · go_in
   go_wp2_with fail;refine(KC.out _).mono ?_;rintro e w1 ⟨rfl,hb⟩;go_wp2_with fail;refine(Kf.out _).mono ?_;rintro e w2 ⟨rfl,rfl⟩;go_wp2_with fail;go_ret;exact⟨rfl,hb⟩
 · go_in
   go_wp2_with fail;refine(KC.out _).mono ?_;rintro e w1 ⟨rfl,hb⟩;go_wp2_with fail;refine(Kt.out _).mono ?_;rintro e w2 ⟨rfl,rfl⟩;go_wp2_with fail;go_ret;exact⟨rfl,hb⟩
theorem xC6 (a d:ByteArray) (c:Int) (HC:xHk a c) (hd:(c=0∧d=⟨#[49]⟩)∨(¬c=0∧d=⟨#[48]⟩)):yQ6 196 a d:=by
 intro w hw;unfold xHk xFe at HC;have KC:=zC HC;have Kt:=zC yV6;have Kf:=zC yU6;clear HC;rcases hd with⟨hc,rfl⟩|⟨hc,rfl⟩
 · replace hc:(c==0)=true:=beq_iff_eq.2 hc
   go_in;go_wp2_with fail;refine(KC.out _).mono ?_;rintro e w1 ⟨rfl,hb⟩;go_wp2_with fail;refine(Kt.out _).mono ?_;rintro e w2 ⟨rfl,rfl⟩;go_wp2_with fail;go_ret;exact⟨rfl,hb⟩
 · replace hc:(c==0)=false:=zT0.2 hc
   go_in;go_wp2_with fail;refine(KC.out _).mono ?_;rintro e w1 ⟨rfl,hb⟩;go_wp2_with fail;refine(Kf.out _).mono ?_;rintro e w2 ⟨rfl,rfl⟩;go_wp2_with fail;go_ret;exact⟨rfl,hb⟩
theorem xD6 (a d:ByteArray) (c:Int) (HC:xHk a c) (HO:∀w,Tab w→Calls Tryz.prog 45 #[.int .i64 c] w fun e w'=>e=.returned (.string d)∧Below w.heap.size w w') (c0: -1≤c) (c1:c≤1):yQ6 199 a d:=by
 intro w hw;unfold xHk xFe at HC;have KC:=zC HC;have KO:=zC HO;clear HC HO;go_in;go_wp2_with fail;refine(KC.out _).mono ?_;rintro e w1 ⟨rfl,hb⟩;go_wp2_with fail;refine(KO.out _ (hw.tab.below hb)).mono ?_;rintro e w2 ⟨rfl,hq⟩;replace hb:=hb.trans (hq.mono hb.size);clear hq;go_wp2_with fail;go_ret;exact⟨rfl,hb⟩
theorem xE6 (a b d:ByteArray) (ec:Int) (HA:xFk a true) (HB:xFk b true) (HF:yR6 200 a b d ec):xSk ⟨#[43]⟩ a b d ec:=by
 intro w hw;have KA:=zC HA;have KB:=zC HB;have KF:=zC HF;clear HA HB HF;go_in;go_wp2_with fail;refine(KA.out _).mono ?_;rintro e w1 ⟨rfl,rfl⟩;go_wp2_with fail;refine(KB.out _).mono ?_;rintro e w1 ⟨rfl,rfl⟩;go_wp2_with fail;refine(yJ7 _).mono ?_;rintro e w2 ⟨b0,rfl,hm,hb⟩;have hl:=yL7 hm;go_wp2_with fail;refine(KF.out _ (hw.below hb)).mono ?_;rintro e w3 ⟨rfl,hq⟩;replace hb:=hb.trans (hq.mono hb.size);clear hq;go_wp2_with fail;go_ret2;exact⟨rfl,hb⟩
theorem xF6 (a b d:ByteArray) (ec:Int) (HA:xFk a true) (HB:xFk b true) (HF:yR6 201 a b d ec):xSk ⟨#[45]⟩ a b d ec:=by
 intro w hw;have KA:=zC HA;have KB:=zC HB;have KF:=zC HF;clear HA HB HF;go_in;go_wp2_with fail;refine(KA.out _).mono ?_;rintro e w1 ⟨rfl,rfl⟩;go_wp2_with fail;refine(KB.out _).mono ?_;rintro e w1 ⟨rfl,rfl⟩;go_wp2_with fail;refine(yJ7 _).mono ?_;rintro e w2 ⟨b0,rfl,hm,hb⟩;have hl:=yM7 hm;go_wp2_with fail;refine(KF.out _ (hw.below hb)).mono ?_;rintro e w3 ⟨rfl,hq⟩;replace hb:=hb.trans (hq.mono hb.size);clear hq;go_wp2_with fail;go_ret2;exact⟨rfl,hb⟩
theorem xG6 (a b d:ByteArray) (ec:Int) (HA:xFk a true) (HB:xFk b true) (HF:yR6 202 a b d ec):xSk ⟨#[42]⟩ a b d ec:=by
 intro w hw;have KA:=zC HA;have KB:=zC HB;have KF:=zC HF;clear HA HB HF;go_in;go_wp2_with fail;refine(KA.out _).mono ?_;rintro e w1 ⟨rfl,rfl⟩;go_wp2_with fail;refine(KB.out _).mono ?_;rintro e w1 ⟨rfl,rfl⟩;go_wp2_with fail;refine(yJ7 _).mono ?_;rintro e w2 ⟨b0,rfl,hm,hb⟩;have hl:=yN7 hm;go_wp2_with fail;refine(KF.out _ (hw.below hb)).mono ?_;rintro e w3 ⟨rfl,hq⟩;replace hb:=hb.trans (hq.mono hb.size);clear hq;go_wp2_with fail;go_ret2;exact⟨rfl,hb⟩
theorem xH6 (a b d:ByteArray) (ec:Int) (HA:xFk a true) (HB:xFk b true) (HF:yR6 203 a b d ec):xSk ⟨#[37]⟩ a b d ec:=by
 intro w hw;have KA:=zC HA;have KB:=zC HB;have KF:=zC HF;clear HA HB HF;go_in;go_wp2_with fail;refine(KA.out _).mono ?_;rintro e w1 ⟨rfl,rfl⟩;go_wp2_with fail;refine(KB.out _).mono ?_;rintro e w1 ⟨rfl,rfl⟩;go_wp2_with fail;refine(yJ7 _).mono ?_;rintro e w2 ⟨b0,rfl,hm,hb⟩;have hl:=yO7 hm;go_wp2_with fail;refine(KF.out _ (hw.below hb)).mono ?_;rintro e w3 ⟨rfl,hq⟩;replace hb:=hb.trans (hq.mono hb.size);clear hq;go_wp2_with fail;go_ret2;exact⟨rfl,hb⟩
theorem xI6 (a b d:ByteArray) (ec:Int) (HA:xFk a true) (HB:xFk b true) (HF:yR6 204 a b d ec):xSk ⟨#[33]⟩ a b d ec:=by
 intro w hw;have KA:=zC HA;have KB:=zC HB;have KF:=zC HF;clear HA HB HF;go_in;go_wp2_with fail;refine(KA.out _).mono ?_;rintro e w1 ⟨rfl,rfl⟩;go_wp2_with fail;refine(KB.out _).mono ?_;rintro e w1 ⟨rfl,rfl⟩;go_wp2_with fail;refine(yJ7 _).mono ?_;rintro e w2 ⟨b0,rfl,hm,hb⟩;have hl:=yP7 hm;go_wp2_with fail;refine(KF.out _ (hw.below hb)).mono ?_;rintro e w3 ⟨rfl,hq⟩;replace hb:=hb.trans (hq.mono hb.size);clear hq;go_wp2_with fail;go_ret2;exact⟨rfl,hb⟩
theorem xJ6 (a b d:ByteArray) (HA:xFk a true) (HB:xFk b true) (HF:yP6 205 a b d):xSk ⟨#[38]⟩ a b d 0:=by
 intro w hw;have KA:=zC HA;have KB:=zC HB;have KF:=zC HF;clear HA HB HF;go_in;go_wp2_with fail;refine(KA.out _).mono ?_;rintro e w1 ⟨rfl,rfl⟩;go_wp2_with fail;refine(KB.out _).mono ?_;rintro e w1 ⟨rfl,rfl⟩;go_wp2_with fail;refine(yJ7 _).mono ?_;rintro e w2 ⟨b0,rfl,hm,hb⟩;have hl:=yQ7 hm (op:=⟨#[38]⟩) yCn yCn yCn yCn yCn yCn;go_wp2_with fail;refine(yR7 _).mono ?_;rintro e w3 ⟨b1,rfl,hm,hq⟩;replace hb:=hb.trans (hq.mono hb.size);clear hq hl;have hl:=yT7 hm;go_wp2_with fail;refine(KF.out _).mono ?_;rintro e w4 ⟨rfl,hq⟩;replace hb:=hb.trans (hq.mono hb.size);clear hq;go_wp2_with fail;go_ret2;exact⟨rfl,hb⟩
theorem xK6 (a b d:ByteArray) (HA:xFk a true) (HB:xFk b true) (HF:yP6 206 a b d):xSk ⟨#[124]⟩ a b d 0:=by
 intro w hw;have KA:=zC HA;have KB:=zC HB;have KF:=zC HF;clear HA HB HF;go_in;go_wp2_with fail;refine(KA.out _).mono ?_;rintro e w1 ⟨rfl,rfl⟩;go_wp2_with fail;refine(KB.out _).mono ?_;rintro e w1 ⟨rfl,rfl⟩;go_wp2_with fail;refine(yJ7 _).mono ?_;rintro e w2 ⟨b0,rfl,hm,hb⟩;have hl:=yQ7 hm (op:=⟨#[124]⟩) yCn yCn yCn yCn yCn yCn;go_wp2_with fail;refine(yR7 _).mono ?_;rintro e w3 ⟨b1,rfl,hm,hq⟩;replace hb:=hb.trans (hq.mono hb.size);clear hq hl;have hl:=yU7 hm;go_wp2_with fail;refine(KF.out _).mono ?_;rintro e w4 ⟨rfl,hq⟩;replace hb:=hb.trans (hq.mono hb.size);clear hq;go_wp2_with fail;go_ret2;exact⟨rfl,hb⟩
theorem xL6 (a b d:ByteArray) (HA:xFk a true) (HB:xFk b true) (HF:yP6 207 a b d):xSk ⟨#[60]⟩ a b d 0:=by
 intro w hw;have KA:=zC HA;have KB:=zC HB;have KF:=zC HF;clear HA HB HF;go_in;go_wp2_with fail;refine(KA.out _).mono ?_;rintro e w1 ⟨rfl,rfl⟩;go_wp2_with fail;refine(KB.out _).mono ?_;rintro e w1 ⟨rfl,rfl⟩;go_wp2_with fail;refine(yJ7 _).mono ?_;rintro e w2 ⟨b0,rfl,hm,hb⟩;have hl:=yQ7 hm (op:=⟨#[60]⟩) yCn yCn yCn yCn yCn yCn;go_wp2_with fail;refine(yR7 _).mono ?_;rintro e w3 ⟨b1,rfl,hm,hq⟩;replace hb:=hb.trans (hq.mono hb.size);clear hq hl;have hl:=yV7 hm;go_wp2_with fail;refine(KF.out _).mono ?_;rintro e w4 ⟨rfl,hq⟩;replace hb:=hb.trans (hq.mono hb.size);clear hq;go_wp2_with fail;go_ret2;exact⟨rfl,hb⟩
theorem xM6 (a b d:ByteArray) (HA:xFk a true) (HB:xFk b true) (HF:yP6 209 a b d):xSk ⟨#[62]⟩ a b d 0:=by
 intro w hw;have KA:=zC HA;have KB:=zC HB;have KF:=zC HF;clear HA HB HF;go_in;go_wp2_with fail;refine(KA.out _).mono ?_;rintro e w1 ⟨rfl,rfl⟩;go_wp2_with fail;refine(KB.out _).mono ?_;rintro e w1 ⟨rfl,rfl⟩;go_wp2_with fail;refine(yJ7 _).mono ?_;rintro e w2 ⟨b0,rfl,hm,hb⟩;have hl:=yQ7 hm (op:=⟨#[62]⟩) yCn yCn yCn yCn yCn yCn;go_wp2_with fail;refine(yR7 _).mono ?_;rintro e w3 ⟨b1,rfl,hm,hq⟩;replace hb:=hb.trans (hq.mono hb.size);clear hq hl;have hl:=yW7 hm;go_wp2_with fail;refine(KF.out _).mono ?_;rintro e w4 ⟨rfl,hq⟩;replace hb:=hb.trans (hq.mono hb.size);clear hq;go_wp2_with fail;go_ret2;exact⟨rfl,hb⟩
theorem xN6 (a b d:ByteArray) (HA:xFk a true) (HB:xFk b true) (HF:yP6 210 a b d):xSk ⟨#[61]⟩ a b d 0:=by
 intro w hw;have KA:=zC HA;have KB:=zC HB;have KF:=zC HF;clear HA HB HF;go_in;go_wp2_with fail;refine(KA.out _).mono ?_;rintro e w1 ⟨rfl,rfl⟩;go_wp2_with fail;refine(KB.out _).mono ?_;rintro e w1 ⟨rfl,rfl⟩;go_wp2_with fail;refine(yJ7 _).mono ?_;rintro e w2 ⟨b0,rfl,hm,hb⟩;have hl:=yQ7 hm (op:=⟨#[61]⟩) yCn yCn yCn yCn yCn yCn;go_wp2_with fail;refine(yR7 _).mono ?_;rintro e w3 ⟨b1,rfl,hm,hq⟩;replace hb:=hb.trans (hq.mono hb.size);clear hq hl;have hl:=yX7 hm;go_wp2_with fail;refine(KF.out _).mono ?_;rintro e w4 ⟨rfl,hq⟩;replace hb:=hb.trans (hq.mono hb.size);clear hq;go_wp2_with fail;go_ret2;exact⟨rfl,hb⟩
theorem xO6 (a b d:ByteArray) (HA:xFk a true) (HB:xFk b true) (HF:yP6 211 a b d):xSk ⟨#[126]⟩ a b d 0:=by
 intro w hw;have KA:=zC HA;have KB:=zC HB;have KF:=zC HF;clear HA HB HF;go_in;go_wp2_with fail;refine(KA.out _).mono ?_;rintro e w1 ⟨rfl,rfl⟩;go_wp2_with fail;refine(KB.out _).mono ?_;rintro e w1 ⟨rfl,rfl⟩;go_wp2_with fail;refine(yJ7 _).mono ?_;rintro e w2 ⟨b0,rfl,hm,hb⟩;have hl:=yQ7 hm (op:=⟨#[126]⟩) yCn yCn yCn yCn yCn yCn;go_wp2_with fail;refine(yR7 _).mono ?_;rintro e w3 ⟨b1,rfl,hm,hq⟩;replace hb:=hb.trans (hq.mono hb.size);clear hq hl;have hl:=yY7 hm;go_wp2_with fail;refine(KF.out _).mono ?_;rintro e w4 ⟨rfl,hq⟩;replace hb:=hb.trans (hq.mono hb.size);clear hq;go_wp2_with fail;go_ret2;exact⟨rfl,hb⟩
theorem xP6 (op a b:ByteArray) (ho:op.size≤maxLen) (HA:xFk a true) (HB:xFk b true) (h0:op≠⟨#[43]⟩) (h1:op≠⟨#[45]⟩) (h2:op≠⟨#[42]⟩) (h3:op≠⟨#[37]⟩) (h4:op≠⟨#[33]⟩) (h5:op≠⟨#[38]⟩) (h6:op≠⟨#[124]⟩) (h7:op≠⟨#[60]⟩) (h8:op≠⟨#[62]⟩) (h9:op≠⟨#[61]⟩) (h10:op≠⟨#[126]⟩):xSk op a b ⟨#[]⟩ 1:=by
 intro w hw;have KA:=zC HA;have KB:=zC HB;have KR:=zC (fun w b (h:Mq w b RL)=>yQ7 h ho h0 h1 h2 h3 h4);have KW:=zC (fun w b (h:Mq w b WL)=>yZ7 h ho h5 h6 h7 h8 h9 h10);clear HA HB h0 h1 h2 h3 h4 h5 h6 h7 h8 h9 h10;go_in;go_wp2_with fail;refine(KA.out _).mono ?_;rintro e w1 ⟨rfl,rfl⟩;go_wp2_with fail;refine(KB.out _).mono ?_;rintro e w1 ⟨rfl,rfl⟩;go_wp2_with fail;refine(yJ7 _).mono ?_;rintro e w2 ⟨b0,rfl,hm,hb⟩;have hl:=KR.out _ _ hm;go_wp2_with fail;refine(yR7 _).mono ?_;rintro e w3 ⟨b1,rfl,hm,hq⟩;replace hb:=hb.trans (hq.mono hb.size);clear hq hl;have hl:=KW.out _ _ hm;go_wp2_with fail;go_ret2;exact⟨rfl,hb⟩
theorem xQ6 (op a b:ByteArray) (u v:Bool) (HA:xFk a u) (HB:xFk b v) (hn:(u&&v)=false):xSk op a b ⟨#[]⟩ 1:=by
 intro w hw;have KA:=zC HA;have KB:=zC HB;clear HA HB;cases u with
 |false=>
  clear hn;go_in;go_wp2_with fail;refine(KA.out _).mono ?_;rintro e w1 ⟨rfl,rfl⟩;go_wp2_with fail;go_ret2;exact⟨rfl,zI _ _⟩
 |true=>
  cases v with
  |true=>exact absurd hn yCn
  |false=>
   clear hn;go_in;go_wp2_with fail;refine(KA.out _).mono ?_;rintro e w1 ⟨rfl,rfl⟩;go_wp2_with fail;refine(KB.out _).mono ?_;rintro e w1 ⟨rfl,rfl⟩;go_wp2_with fail;go_ret2;exact⟨rfl,zI _ _⟩
theorem xR6 (a d:ByteArray) (HA:xFk a true) (HF:yQ6 195 a d):xTk ⟨#[45]⟩ a d 0:=by
 intro w hw;have KA:=zC HA;have KF:=zC HF;clear HA HF;go_in;go_wp2_with fail;refine(xA7 _).mono ?_;rintro e w1 ⟨b0,rfl,hm,hb⟩;have hl:=xC7 hm;go_wp2_with fail;refine(KA.out _).mono ?_;rintro e w2 ⟨rfl,rfl⟩;go_wp2_with fail;refine(KF.out _ (hw.below hb)).mono ?_;rintro e w3 ⟨rfl,hq⟩;replace hb:=hb.trans (hq.mono hb.size);clear hq;go_wp2_with fail;go_ret2;exact⟨rfl,hb⟩
theorem xS6 (a:ByteArray) (HA:xFk a false):xTk ⟨#[45]⟩ a ⟨#[]⟩ 1:=by
 intro w hw;have KA:=zC HA;clear HA;go_in;go_wp2_with fail;refine(xA7 _).mono ?_;rintro e w1 ⟨b0,rfl,hm,hb⟩;have hl:=xC7 hm;go_wp2_with fail;refine(KA.out _).mono ?_;rintro e w2 ⟨rfl,rfl⟩;go_wp2_with fail;go_ret2;exact⟨rfl,hb⟩
theorem xT6 (a d:ByteArray) (HA:xFk a true) (HF:yQ6 196 a d):xTk ⟨#[126]⟩ a d 0:=by
 intro w hw;have KA:=zC HA;have KF:=zC HF;clear HA HF;go_in;go_wp2_with fail;refine(xA7 _).mono ?_;rintro e w1 ⟨b0,rfl,hm,hb⟩;have hl:=xD7 hm;go_wp2_with fail;refine(KA.out _).mono ?_;rintro e w2 ⟨rfl,rfl⟩;go_wp2_with fail;refine(KF.out _ (hw.below hb)).mono ?_;rintro e w3 ⟨rfl,hq⟩;replace hb:=hb.trans (hq.mono hb.size);clear hq;go_wp2_with fail;go_ret2;exact⟨rfl,hb⟩
theorem xU6 (a:ByteArray) (HA:xFk a false):xTk ⟨#[126]⟩ a ⟨#[]⟩ 1:=by
 intro w hw;have KA:=zC HA;clear HA;go_in;go_wp2_with fail;refine(xA7 _).mono ?_;rintro e w1 ⟨b0,rfl,hm,hb⟩;have hl:=xD7 hm;go_wp2_with fail;refine(KA.out _).mono ?_;rintro e w2 ⟨rfl,rfl⟩;go_wp2_with fail;go_ret2;exact⟨rfl,hb⟩
theorem xV6 (a d:ByteArray) (HA:xFk a true) (HF:yQ6 199 a d):xTk ⟨#[42]⟩ a d 0:=by
 intro w hw;have KA:=zC HA;have KF:=zC HF;clear HA HF;go_in;go_wp2_with fail;refine(xA7 _).mono ?_;rintro e w1 ⟨b0,rfl,hm,hb⟩;have hl:=xE7 hm;go_wp2_with fail;refine(KA.out _).mono ?_;rintro e w2 ⟨rfl,rfl⟩;go_wp2_with fail;refine(KF.out _ (hw.below hb)).mono ?_;rintro e w3 ⟨rfl,hq⟩;replace hb:=hb.trans (hq.mono hb.size);clear hq;go_wp2_with fail;go_ret2;exact⟨rfl,hb⟩
theorem xW6 (a:ByteArray) (HA:xFk a false):xTk ⟨#[42]⟩ a ⟨#[]⟩ 1:=by
 intro w hw;have KA:=zC HA;clear HA;go_in;go_wp2_with fail;refine(xA7 _).mono ?_;rintro e w1 ⟨b0,rfl,hm,hb⟩;have hl:=xE7 hm;go_wp2_with fail;refine(KA.out _).mono ?_;rintro e w2 ⟨rfl,rfl⟩;go_wp2_with fail;go_ret2;exact⟨rfl,hb⟩
theorem xX6 (op a:ByteArray) (ho:op.size≤maxLen) (h0:op≠⟨#[45]⟩) (h1:op≠⟨#[126]⟩) (h2:op≠⟨#[42]⟩):xTk op a ⟨#[]⟩ 1:=by
 intro w hw;have KM:=zC (fun w b (h:Mq w b ML)=>xF7 h ho h0 h1 h2);clear h0 h1 h2;go_in;go_wp2_with fail;refine(xA7 _).mono ?_;rintro e w1 ⟨b0,rfl,hm,hb⟩;have hl:=KM.out _ _ hm;go_wp2_with fail;go_ret2;exact⟨rfl,hb⟩
theorem xY6 {x y:Int} (h:x<y):xKa x y= -1:=by unfold xKa;rw[yA h]
theorem xZ6 {x y:Int} (h:y<x):xKa x y=1:=by unfold xKa;rw[zY yEn,yA h]
theorem zA7 (x:Int):xKa x x=0:=by unfold xKa;rw[zY yEn,zY yEn]
theorem zB7 (b:Bool):T (some (bI b))=if b then⟨#[49]⟩else⟨#[48]⟩:=by
 cases b
 · exact S_0
 · exact S_1
theorem zC7:xXk:=by
 intro op s t o p ho hs ht;have MA:xFk s o.isSome:=fun w=>yK6 w hs;have MB:xFk t p.isSome:=fun w=>yK6 w ht;cases hn:(o.isSome&&p.isSome)
 · rw[yA7 hn]
   exact xQ6 op s t _ _ MA MB hn
 · cases o with
   |none=>cases hn
   |some x=>
   cases p with
   |none=>cases hn
   |some y=>
   have HC:xGk s t (xKa x y):=fun w=>yH6 w hs ht;obtain⟨k,hk⟩:∃k,kdL op.data.toList=k:=⟨_,rfl⟩
   rw[hk];have hx:=hs.1;have hy:=ht.1;rcases xOk hk with⟨rfl,h⟩|⟨rfl,h⟩|⟨rfl,h⟩|⟨rfl,h⟩|⟨rfl,h⟩|⟨rfl,h⟩|⟨rfl,h⟩|⟨rfl,h⟩|⟨rfl,h⟩|⟨rfl,h⟩|⟨rfl,h⟩|⟨rfl,h0,h1,h2,h3,h4,h5,h6,h7,h8,h9,h10⟩
   · rw[yS6 h];exact xE6 s t _ _ MA MB (fun w hw=>yE7 w hs ht hw.tab)
   · rw[yS6 h];exact xF6 s t _ _ MA MB (fun w hw=>yF7 w hs ht hw.tab)
   · rw[yS6 h];exact xG6 s t _ _ MA MB (fun w hw=>yG7 w hs ht hw.tab)
   · rw[yS6 h];exact xH6 s t _ _ MA MB (fun w hw=>yH7 w hs ht hw.tab)
   · rw[yS6 h];exact xI6 s t _ _ MA MB (fun w hw=>yI7 w hs ht hw.tab)
   · rw[yS6 h]
     refine xJ6 s t _ MA MB (yW6 s t _ _ HC ?_);show(xKa x y<0∧S (if x≤y then x else y)=s)∨(¬xKa x y<0∧S (if x≤y then x else y)=t);rw[hx,hy];rcases zY1 x y with g|g|g
     · rw[xY6 g,yA yEn];exact .inl ⟨by decide,rfl⟩
     · subst g;rw[zA7,yA yEn];exact .inr ⟨by decide,rfl⟩
     · rw[xZ6 g,zY yEn];exact .inr ⟨by decide,rfl⟩
   · rw[yS6 h]
     refine xK6 s t _ MA MB (yX6 s t _ _ HC ?_);show(0<xKa x y∧S (if x≤y then y else x)=s)∨(¬0<xKa x y∧S (if x≤y then y else x)=t);rw[hx,hy];rcases zY1 x y with g|g|g
     · rw[xY6 g,yA yEn];exact .inr ⟨by decide,rfl⟩
     · subst g;rw[zA7,yA yEn];exact .inr ⟨by decide,rfl⟩
     · rw[xZ6 g,zY yEn];exact .inl ⟨by decide,rfl⟩
   · rw[yS6 h]
     refine xL6 s t _ MA MB (yY6 s t _ _ HC ?_);have e:T (dyO 7 (some x) (some y)).1=if(decide (x<y))=true then⟨#[49]⟩else⟨#[48]⟩:=zB7 _
     rw[e];rcases zY1 x y with g|g|g
     · rw[xY6 g];exact .inl ⟨rfl,by simp;omega⟩
     · subst g;rw[zA7];exact .inr (.inl ⟨rfl,by simp⟩)
     · rw[xZ6 g];exact .inr (.inr ⟨rfl,by simp;omega⟩)
   · rw[yS6 h]
     refine xM6 s t _ MA MB (yZ6 s t _ _ HC ?_);have e:T (dyO 8 (some x) (some y)).1=if(decide (y<x))=true then⟨#[49]⟩else⟨#[48]⟩:=zB7 _
     rw[e];rcases zY1 x y with g|g|g
     · rw[xY6 g];exact .inl ⟨rfl,by simp;omega⟩
     · subst g;rw[zA7];exact .inr (.inl ⟨rfl,by simp⟩)
     · rw[xZ6 g];exact .inr (.inr ⟨rfl,by simp;omega⟩)
   · rw[yS6 h]
     refine xN6 s t _ MA MB (xA6 s t _ _ HC ?_);have e:T (dyO 9 (some x) (some y)).1=if(decide (x=y))=true then⟨#[49]⟩else⟨#[48]⟩:=zB7 _
     rw[e];rcases zY1 x y with g|g|g
     · rw[xY6 g];exact .inl ⟨rfl,by simp;omega⟩
     · subst g;rw[zA7];exact .inr (.inl ⟨rfl,by simp⟩)
     · rw[xZ6 g];exact .inr (.inr ⟨rfl,by simp;omega⟩)
   · rw[yS6 h]
     refine xO6 s t _ MA MB (xB6 s t _ _ HC ?_);have e:T (dyO 10 (some x) (some y)).1=if(!decide (x=y))=true then⟨#[49]⟩else⟨#[48]⟩:=zB7 _
     rw[e];rcases zY1 x y with g|g|g
     · rw[xY6 g];exact .inl ⟨rfl,by simp;omega⟩
     · subst g;rw[zA7];exact .inr (.inl ⟨rfl,by simp⟩)
     · rw[xZ6 g];exact .inr (.inr ⟨rfl,by simp;omega⟩)
   · exact xP6 op s t ho MA MB (fun e=>h0 yGn) (fun e=>h1 yGn) (fun e=>h2 yGn) (fun e=>h3 yGn) (fun e=>h4 yGn) (fun e=>h5 yGn) (fun e=>h6 yGn) (fun e=>h7 yGn) (fun e=>h8 yGn) (fun e=>h9 yGn) (fun e=>h10 yGn)
theorem zD7:xYk:=by
 intro op s o ho hs;have MA:xFk s o.isSome:=fun w=>yK6 w hs;obtain⟨k,hk⟩:∃k,kmL op.data.toList=k:=⟨_,rfl⟩
 rw[hk];cases o with
 |none=>
  rcases xPk hk with⟨rfl,h⟩|⟨rfl,h⟩|⟨rfl,h⟩|⟨rfl,h0,h1,h2⟩
  · rw[yS6 h];exact xS6 s MA
  · rw[yS6 h];exact xU6 s MA
  · rw[yS6 h];exact xW6 s MA
  · exact xX6 op s ho (fun e=>h0 yGn) (fun e=>h1 yGn) (fun e=>h2 yGn)
 |some x=>
  have HS:xHk s x.sign:=fun w=>yJ6 w hs;have hsg: -1≤x.sign∧x.sign≤1:=by
   rcases zY1 x 0 with g|g|g
   · rw[zZ1 g];decide
   · subst g;decide
   · rw[yA1 g];decide
  rcases xPk hk with⟨rfl,h⟩|⟨rfl,h⟩|⟨rfl,h⟩|⟨rfl,h0,h1,h2⟩
  · rw[yS6 h];exact xR6 s _ MA (fun w hw=>yM6 w hs hw.tab)
  · rw[yS6 h]
    refine xT6 s _ MA (xC6 s _ _ HS ?_);have e:T (mnO 1 (some x)).1=if(decide (x=0))=true then⟨#[49]⟩else⟨#[48]⟩:=zB7 _
    rw[e];by_cases g:x=0
    · subst g;exact .inl ⟨rfl,by simp⟩
    · exact .inr ⟨by rw[Int.sign_eq_zero_iff_zero];exact g,by simp[g]⟩
  · rw[yS6 h]
    exact xV6 s _ MA (xD6 s _ _ HS (fun w ht=>zY6 x.sign yEn yEn w ht) hsg.1 hsg.2)
  · exact xX6 op s ho (fun e=>h0 yGn) (fun e=>h1 yGn) (fun e=>h2 yGn)
end
section
open Go.RowKit
def zE7 (v:Int) (W:World) (e:Ending) (W':World):Prop:=e=.returned (.int .i64 v)∧Below W.heap.size W W'
end
end Go.Proofs.YtcfbjdplhgdpfaaGreatDoor

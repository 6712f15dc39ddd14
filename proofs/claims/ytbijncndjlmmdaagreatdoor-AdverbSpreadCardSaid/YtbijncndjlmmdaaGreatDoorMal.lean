import Derived.Test.YtbijncndjlmmdaaGreatDoorMak
set_option maxHeartbeats 3200000
set_option maxRecDepth 10000
namespace Go.Proofs.YtbijncndjlmmdaaGreatDoor
set_option linter.unusedVariables false
set_option linter.unusedSimpArgs false
open Go.RowKit Go.Maps
def StIs (F:FuncId) (a b d:ByteArray):Prop:=∀w,Calls Tryz.prog F #[.string a,.string b] w fun e w'=>e=.returned (.string d)∧Below w.heap.size w w'
def ToIs (F:FuncId) (a d:ByteArray):Prop:=∀w,SC w→Calls Tryz.prog F #[.string a] w fun e w'=>e=.returned (.string d)∧Below w.heap.size w w'
def OpIs (F:FuncId) (a b d:ByteArray) (ec:Int):Prop:=∀w,SC w→Calls Tryz.prog F #[.string a,.string b] w fun e w'=>e=.returned (.tuple #[.string d,.int .i64 ec])∧Below w.heap.size w w'
theorem bytes_is {op:ByteArray} {l:List UInt8} (h:op.data.toList=l):op=⟨l.toArray⟩:=by
 obtain⟨⟨d⟩⟩:=op
 have h:d=l:=h
 subst h;rfl
def BitIs (b:Bool) (d:ByteArray):Prop:=∀w,Calls Tryz.prog 244 #[.bool b] w fun e w'=>e=.returned (.string d)∧w=w'
theorem bit_false:BitIs false ⟨#[48]⟩:=by
 intro w
 go_enter Tryz.func244,Tryz.ntmps244
 go_wp2_with fail
 go_ret
 exact⟨rfl,rfl⟩
theorem bit_true:BitIs true ⟨#[49]⟩:=by
 intro w
 go_enter Tryz.func244,Tryz.ntmps244
 go_wp2_with fail
 go_ret
 exact⟨rfl,rfl⟩
theorem weigh_5 (a b d:ByteArray) (c:Int) (HC:CmpIs a b c) (hd:(c<0∧d=a)∨(¬c<0∧d=b)):StIs 241 a b d:=by
 intro w
 unfold CmpIs CmpPost at HC
 have KC:=Lib.hid HC
 clear HC
 rcases hd with⟨hc,rfl⟩|⟨hc,rfl⟩
 · go_enter Tryz.func241,Tryz.ntmps241
   go_wp2_with fail
   refine(KC.out _).mono ?_
   rintro e w1 ⟨rfl,hb⟩
   go_wp2_with fail
   go_ret
   exact⟨rfl,hb⟩
 · go_enter Tryz.func241,Tryz.ntmps241
   go_wp2_with fail
   refine(KC.out _).mono ?_
   rintro e w1 ⟨rfl,hb⟩
   go_wp2_with fail
   go_ret
   exact⟨rfl,hb⟩
theorem weigh_6 (a b d:ByteArray) (c:Int) (HC:CmpIs a b c) (hd:(0<c∧d=a)∨(¬0<c∧d=b)):StIs 242 a b d:=by
 intro w
 unfold CmpIs CmpPost at HC
 have KC:=Lib.hid HC
 clear HC
 rcases hd with⟨hc,rfl⟩|⟨hc,rfl⟩
 · go_enter Tryz.func242,Tryz.ntmps242
   go_wp2_with fail
   refine(KC.out _).mono ?_
   rintro e w1 ⟨rfl,hb⟩
   go_wp2_with fail
   go_ret
   exact⟨rfl,hb⟩
 · go_enter Tryz.func242,Tryz.ntmps242
   go_wp2_with fail
   refine(KC.out _).mono ?_
   rintro e w1 ⟨rfl,hb⟩
   go_wp2_with fail
   go_ret
   exact⟨rfl,hb⟩
theorem weigh_7 (a b d:ByteArray) (c:Int) (HC:CmpIs a b c) (hd:(c= -1∧d=⟨#[49]⟩)∨(c=0∧d=⟨#[48]⟩)∨(c=1∧d=⟨#[48]⟩)):StIs 243 a b d:=by
 intro w
 unfold CmpIs CmpPost at HC
 have KC:=Lib.hid HC
 have Kt:=Lib.hid bit_true
 have Kf:=Lib.hid bit_false
 clear HC
 rcases hd with⟨rfl,rfl⟩|⟨rfl,rfl⟩|⟨rfl,rfl⟩
 · go_enter Tryz.func243,Tryz.ntmps243
   go_wp2_with fail
   refine(KC.out _).mono ?_
   rintro e w1 ⟨rfl,hb⟩
   go_wp2_with fail
   refine(Kt.out _).mono ?_
   rintro e w2 ⟨rfl,rfl⟩
   go_wp2_with fail
   go_ret
   exact⟨rfl,hb⟩
 · go_enter Tryz.func243,Tryz.ntmps243
   go_wp2_with fail
   refine(KC.out _).mono ?_
   rintro e w1 ⟨rfl,hb⟩
   go_wp2_with fail
   refine(Kf.out _).mono ?_
   rintro e w2 ⟨rfl,rfl⟩
   go_wp2_with fail
   go_ret
   exact⟨rfl,hb⟩
 · go_enter Tryz.func243,Tryz.ntmps243
   go_wp2_with fail
   refine(KC.out _).mono ?_
   rintro e w1 ⟨rfl,hb⟩
   go_wp2_with fail
   refine(Kf.out _).mono ?_
   rintro e w2 ⟨rfl,rfl⟩
   go_wp2_with fail
   go_ret
   exact⟨rfl,hb⟩
theorem weigh_8 (a b d:ByteArray) (c:Int) (HC:CmpIs a b c) (hd:(c= -1∧d=⟨#[48]⟩)∨(c=0∧d=⟨#[48]⟩)∨(c=1∧d=⟨#[49]⟩)):StIs 246 a b d:=by
 intro w
 unfold CmpIs CmpPost at HC
 have KC:=Lib.hid HC
 have Kt:=Lib.hid bit_true
 have Kf:=Lib.hid bit_false
 clear HC
 rcases hd with⟨rfl,rfl⟩|⟨rfl,rfl⟩|⟨rfl,rfl⟩
 · go_enter Tryz.func246,Tryz.ntmps246
   go_wp2_with fail
   refine(KC.out _).mono ?_
   rintro e w1 ⟨rfl,hb⟩
   go_wp2_with fail
   refine(Kf.out _).mono ?_
   rintro e w2 ⟨rfl,rfl⟩
   go_wp2_with fail
   go_ret
   exact⟨rfl,hb⟩
 · go_enter Tryz.func246,Tryz.ntmps246
   go_wp2_with fail
   refine(KC.out _).mono ?_
   rintro e w1 ⟨rfl,hb⟩
   go_wp2_with fail
   refine(Kf.out _).mono ?_
   rintro e w2 ⟨rfl,rfl⟩
   go_wp2_with fail
   go_ret
   exact⟨rfl,hb⟩
 · go_enter Tryz.func246,Tryz.ntmps246
   go_wp2_with fail
   refine(KC.out _).mono ?_
   rintro e w1 ⟨rfl,hb⟩
   go_wp2_with fail
   refine(Kt.out _).mono ?_
   rintro e w2 ⟨rfl,rfl⟩
   go_wp2_with fail
   go_ret
   exact⟨rfl,hb⟩
theorem weigh_9 (a b d:ByteArray) (c:Int) (HC:CmpIs a b c) (hd:(c= -1∧d=⟨#[48]⟩)∨(c=0∧d=⟨#[49]⟩)∨(c=1∧d=⟨#[48]⟩)):StIs 247 a b d:=by
 intro w
 unfold CmpIs CmpPost at HC
 have KC:=Lib.hid HC
 have Kt:=Lib.hid bit_true
 have Kf:=Lib.hid bit_false
 clear HC
 rcases hd with⟨rfl,rfl⟩|⟨rfl,rfl⟩|⟨rfl,rfl⟩
 · go_enter Tryz.func247,Tryz.ntmps247
   go_wp2_with fail
   refine(KC.out _).mono ?_
   rintro e w1 ⟨rfl,hb⟩
   go_wp2_with fail
   refine(Kf.out _).mono ?_
   rintro e w2 ⟨rfl,rfl⟩
   go_wp2_with fail
   go_ret
   exact⟨rfl,hb⟩
 · go_enter Tryz.func247,Tryz.ntmps247
   go_wp2_with fail
   refine(KC.out _).mono ?_
   rintro e w1 ⟨rfl,hb⟩
   go_wp2_with fail
   refine(Kt.out _).mono ?_
   rintro e w2 ⟨rfl,rfl⟩
   go_wp2_with fail
   go_ret
   exact⟨rfl,hb⟩
 · go_enter Tryz.func247,Tryz.ntmps247
   go_wp2_with fail
   refine(KC.out _).mono ?_
   rintro e w1 ⟨rfl,hb⟩
   go_wp2_with fail
   refine(Kf.out _).mono ?_
   rintro e w2 ⟨rfl,rfl⟩
   go_wp2_with fail
   go_ret
   exact⟨rfl,hb⟩
theorem weigh_10 (a b d:ByteArray) (c:Int) (HC:CmpIs a b c) (hd:(c= -1∧d=⟨#[49]⟩)∨(c=0∧d=⟨#[48]⟩)∨(c=1∧d=⟨#[49]⟩)):StIs 248 a b d:=by
 intro w
 unfold CmpIs CmpPost at HC
 have KC:=Lib.hid HC
 have Kt:=Lib.hid bit_true
 have Kf:=Lib.hid bit_false
 clear HC
 rcases hd with⟨rfl,rfl⟩|⟨rfl,rfl⟩|⟨rfl,rfl⟩
 · go_enter Tryz.func248,Tryz.ntmps248
   go_wp2_with fail
   refine(KC.out _).mono ?_
   rintro e w1 ⟨rfl,hb⟩
   go_wp2_with fail
   refine(Kt.out _).mono ?_
   rintro e w2 ⟨rfl,rfl⟩
   go_wp2_with fail
   go_ret
   exact⟨rfl,hb⟩
 · go_enter Tryz.func248,Tryz.ntmps248
   go_wp2_with fail
   refine(KC.out _).mono ?_
   rintro e w1 ⟨rfl,hb⟩
   go_wp2_with fail
   refine(Kf.out _).mono ?_
   rintro e w2 ⟨rfl,rfl⟩
   go_wp2_with fail
   go_ret
   exact⟨rfl,hb⟩
 · go_enter Tryz.func248,Tryz.ntmps248
   go_wp2_with fail
   refine(KC.out _).mono ?_
   rintro e w1 ⟨rfl,hb⟩
   go_wp2_with fail
   refine(Kt.out _).mono ?_
   rintro e w2 ⟨rfl,rfl⟩
   go_wp2_with fail
   go_ret
   exact⟨rfl,hb⟩
theorem turn_1 (a d:ByteArray) (c:Int) (HC:SignIs a c) (hd:(c=0∧d=⟨#[49]⟩)∨(¬c=0∧d=⟨#[48]⟩)):ToIs 251 a d:=by
 intro w hw
 unfold SignIs CmpPost at HC
 have KC:=Lib.hid HC
 have Kt:=Lib.hid bit_true
 have Kf:=Lib.hid bit_false
 clear HC
 rcases hd with⟨hc,rfl⟩|⟨hc,rfl⟩
 · replace hc:(c==0)=true:=beq_iff_eq.2 hc
   go_enter Tryz.func251,Tryz.ntmps251
   go_wp2_with fail
   refine(KC.out _).mono ?_
   rintro e w1 ⟨rfl,hb⟩
   go_wp2_with fail
   refine(Kt.out _).mono ?_
   rintro e w2 ⟨rfl,rfl⟩
   go_wp2_with fail
   go_ret
   exact⟨rfl,hb⟩
 · replace hc:(c==0)=false:=beq_eq_false_iff_ne.2 hc
   go_enter Tryz.func251,Tryz.ntmps251
   go_wp2_with fail
   refine(KC.out _).mono ?_
   rintro e w1 ⟨rfl,hb⟩
   go_wp2_with fail
   refine(Kf.out _).mono ?_
   rintro e w2 ⟨rfl,rfl⟩
   go_wp2_with fail
   go_ret
   exact⟨rfl,hb⟩
theorem turn_2 (a d:ByteArray) (c:Int) (HC:SignIs a c) (HO:∀w,Tab w→Calls Tryz.prog 63 #[.int .i64 c] w fun e w'=>e=.returned (.string d)∧Below w.heap.size w w') (c0: -1≤c) (c1:c≤1):ToIs 253 a d:=by
 intro w hw
 unfold SignIs CmpPost at HC
 have KC:=Lib.hid HC
 have KO:=Lib.hid HO
 clear HC HO
 go_enter Tryz.func253,Tryz.ntmps253
 go_wp2_with fail
 refine(KC.out _).mono ?_
 rintro e w1 ⟨rfl,hb⟩
 go_wp2_with fail
 refine(KO.out _ (hw.tab.below hb)).mono ?_
 rintro e w2 ⟨rfl,hq⟩
 replace hb:=hb.trans (hq.mono hb.size)
 clear hq
 go_wp2_with fail
 go_ret
 exact⟨rfl,hb⟩
theorem dy_0 (a b d:ByteArray) (ec:Int) (HA:MayIs a true) (HB:MayIs b true) (HF:OpIs 236 a b d ec):DyIs ⟨#[43]⟩ a b d ec:=by
 intro w hw
 have KA:=Lib.hid HA
 have KB:=Lib.hid HB
 have KF:=Lib.hid HF
 clear HA HB HF
 go_enter Tryz.func189,Tryz.ntmps189
 go_wp2_with fail
 refine(KA.out _).mono ?_
 rintro e w1 ⟨rfl,rfl⟩
 go_wp2_with fail
 refine(KB.out _).mono ?_
 rintro e w1 ⟨rfl,rfl⟩
 go_wp2_with fail
 refine(reckoning_is _).mono ?_
 rintro e w2 ⟨b0,rfl,hm,hb⟩
 have hl:=reckoning_0 hm
 go_wp2_with fail
 refine(KF.out _ (hw.below hb)).mono ?_
 rintro e w3 ⟨rfl,hq⟩
 replace hb:=hb.trans (hq.mono hb.size)
 clear hq
 go_wp2_with fail
 go_ret2
 exact⟨rfl,hb⟩
theorem dy_1 (a b d:ByteArray) (ec:Int) (HA:MayIs a true) (HB:MayIs b true) (HF:OpIs 237 a b d ec):DyIs ⟨#[45]⟩ a b d ec:=by
 intro w hw
 have KA:=Lib.hid HA
 have KB:=Lib.hid HB
 have KF:=Lib.hid HF
 clear HA HB HF
 go_enter Tryz.func189,Tryz.ntmps189
 go_wp2_with fail
 refine(KA.out _).mono ?_
 rintro e w1 ⟨rfl,rfl⟩
 go_wp2_with fail
 refine(KB.out _).mono ?_
 rintro e w1 ⟨rfl,rfl⟩
 go_wp2_with fail
 refine(reckoning_is _).mono ?_
 rintro e w2 ⟨b0,rfl,hm,hb⟩
 have hl:=reckoning_1 hm
 go_wp2_with fail
 refine(KF.out _ (hw.below hb)).mono ?_
 rintro e w3 ⟨rfl,hq⟩
 replace hb:=hb.trans (hq.mono hb.size)
 clear hq
 go_wp2_with fail
 go_ret2
 exact⟨rfl,hb⟩
theorem dy_2 (a b d:ByteArray) (ec:Int) (HA:MayIs a true) (HB:MayIs b true) (HF:OpIs 238 a b d ec):DyIs ⟨#[42]⟩ a b d ec:=by
 intro w hw
 have KA:=Lib.hid HA
 have KB:=Lib.hid HB
 have KF:=Lib.hid HF
 clear HA HB HF
 go_enter Tryz.func189,Tryz.ntmps189
 go_wp2_with fail
 refine(KA.out _).mono ?_
 rintro e w1 ⟨rfl,rfl⟩
 go_wp2_with fail
 refine(KB.out _).mono ?_
 rintro e w1 ⟨rfl,rfl⟩
 go_wp2_with fail
 refine(reckoning_is _).mono ?_
 rintro e w2 ⟨b0,rfl,hm,hb⟩
 have hl:=reckoning_2 hm
 go_wp2_with fail
 refine(KF.out _ (hw.below hb)).mono ?_
 rintro e w3 ⟨rfl,hq⟩
 replace hb:=hb.trans (hq.mono hb.size)
 clear hq
 go_wp2_with fail
 go_ret2
 exact⟨rfl,hb⟩
theorem dy_3 (a b d:ByteArray) (ec:Int) (HA:MayIs a true) (HB:MayIs b true) (HF:OpIs 239 a b d ec):DyIs ⟨#[37]⟩ a b d ec:=by
 intro w hw
 have KA:=Lib.hid HA
 have KB:=Lib.hid HB
 have KF:=Lib.hid HF
 clear HA HB HF
 go_enter Tryz.func189,Tryz.ntmps189
 go_wp2_with fail
 refine(KA.out _).mono ?_
 rintro e w1 ⟨rfl,rfl⟩
 go_wp2_with fail
 refine(KB.out _).mono ?_
 rintro e w1 ⟨rfl,rfl⟩
 go_wp2_with fail
 refine(reckoning_is _).mono ?_
 rintro e w2 ⟨b0,rfl,hm,hb⟩
 have hl:=reckoning_3 hm
 go_wp2_with fail
 refine(KF.out _ (hw.below hb)).mono ?_
 rintro e w3 ⟨rfl,hq⟩
 replace hb:=hb.trans (hq.mono hb.size)
 clear hq
 go_wp2_with fail
 go_ret2
 exact⟨rfl,hb⟩
theorem dy_4 (a b d:ByteArray) (ec:Int) (HA:MayIs a true) (HB:MayIs b true) (HF:OpIs 240 a b d ec):DyIs ⟨#[33]⟩ a b d ec:=by
 intro w hw
 have KA:=Lib.hid HA
 have KB:=Lib.hid HB
 have KF:=Lib.hid HF
 clear HA HB HF
 go_enter Tryz.func189,Tryz.ntmps189
 go_wp2_with fail
 refine(KA.out _).mono ?_
 rintro e w1 ⟨rfl,rfl⟩
 go_wp2_with fail
 refine(KB.out _).mono ?_
 rintro e w1 ⟨rfl,rfl⟩
 go_wp2_with fail
 refine(reckoning_is _).mono ?_
 rintro e w2 ⟨b0,rfl,hm,hb⟩
 have hl:=reckoning_4 hm
 go_wp2_with fail
 refine(KF.out _ (hw.below hb)).mono ?_
 rintro e w3 ⟨rfl,hq⟩
 replace hb:=hb.trans (hq.mono hb.size)
 clear hq
 go_wp2_with fail
 go_ret2
 exact⟨rfl,hb⟩
theorem dy_5 (a b d:ByteArray) (HA:MayIs a true) (HB:MayIs b true) (HF:StIs 241 a b d):DyIs ⟨#[38]⟩ a b d 0:=by
 intro w hw
 have KA:=Lib.hid HA
 have KB:=Lib.hid HB
 have KF:=Lib.hid HF
 clear HA HB HF
 go_enter Tryz.func189,Tryz.ntmps189
 go_wp2_with fail
 refine(KA.out _).mono ?_
 rintro e w1 ⟨rfl,rfl⟩
 go_wp2_with fail
 refine(KB.out _).mono ?_
 rintro e w1 ⟨rfl,rfl⟩
 go_wp2_with fail
 refine(reckoning_is _).mono ?_
 rintro e w2 ⟨b0,rfl,hm,hb⟩
 have hl:=reckoning_no hm (op:=⟨#[38]⟩) (by decide) (by decide) (by decide) (by decide) (by decide) (by decide)
 go_wp2_with fail
 refine(weighing_is _).mono ?_
 rintro e w3 ⟨b1,rfl,hm,hq⟩
 replace hb:=hb.trans (hq.mono hb.size)
 clear hq hl
 have hl:=weighing_0 hm
 go_wp2_with fail
 refine(KF.out _).mono ?_
 rintro e w4 ⟨rfl,hq⟩
 replace hb:=hb.trans (hq.mono hb.size)
 clear hq
 go_wp2_with fail
 go_ret2
 exact⟨rfl,hb⟩
theorem dy_6 (a b d:ByteArray) (HA:MayIs a true) (HB:MayIs b true) (HF:StIs 242 a b d):DyIs ⟨#[124]⟩ a b d 0:=by
 intro w hw
 have KA:=Lib.hid HA
 have KB:=Lib.hid HB
 have KF:=Lib.hid HF
 clear HA HB HF
 go_enter Tryz.func189,Tryz.ntmps189
 go_wp2_with fail
 refine(KA.out _).mono ?_
 rintro e w1 ⟨rfl,rfl⟩
 go_wp2_with fail
 refine(KB.out _).mono ?_
 rintro e w1 ⟨rfl,rfl⟩
 go_wp2_with fail
 refine(reckoning_is _).mono ?_
 rintro e w2 ⟨b0,rfl,hm,hb⟩
 have hl:=reckoning_no hm (op:=⟨#[124]⟩) (by decide) (by decide) (by decide) (by decide) (by decide) (by decide)
 go_wp2_with fail
 refine(weighing_is _).mono ?_
 rintro e w3 ⟨b1,rfl,hm,hq⟩
 replace hb:=hb.trans (hq.mono hb.size)
 clear hq hl
 have hl:=weighing_1 hm
 go_wp2_with fail
 refine(KF.out _).mono ?_
 rintro e w4 ⟨rfl,hq⟩
 replace hb:=hb.trans (hq.mono hb.size)
 clear hq
 go_wp2_with fail
 go_ret2
 exact⟨rfl,hb⟩
theorem dy_7 (a b d:ByteArray) (HA:MayIs a true) (HB:MayIs b true) (HF:StIs 243 a b d):DyIs ⟨#[60]⟩ a b d 0:=by
 intro w hw
 have KA:=Lib.hid HA
 have KB:=Lib.hid HB
 have KF:=Lib.hid HF
 clear HA HB HF
 go_enter Tryz.func189,Tryz.ntmps189
 go_wp2_with fail
 refine(KA.out _).mono ?_
 rintro e w1 ⟨rfl,rfl⟩
 go_wp2_with fail
 refine(KB.out _).mono ?_
 rintro e w1 ⟨rfl,rfl⟩
 go_wp2_with fail
 refine(reckoning_is _).mono ?_
 rintro e w2 ⟨b0,rfl,hm,hb⟩
 have hl:=reckoning_no hm (op:=⟨#[60]⟩) (by decide) (by decide) (by decide) (by decide) (by decide) (by decide)
 go_wp2_with fail
 refine(weighing_is _).mono ?_
 rintro e w3 ⟨b1,rfl,hm,hq⟩
 replace hb:=hb.trans (hq.mono hb.size)
 clear hq hl
 have hl:=weighing_2 hm
 go_wp2_with fail
 refine(KF.out _).mono ?_
 rintro e w4 ⟨rfl,hq⟩
 replace hb:=hb.trans (hq.mono hb.size)
 clear hq
 go_wp2_with fail
 go_ret2
 exact⟨rfl,hb⟩
theorem dy_8 (a b d:ByteArray) (HA:MayIs a true) (HB:MayIs b true) (HF:StIs 246 a b d):DyIs ⟨#[62]⟩ a b d 0:=by
 intro w hw
 have KA:=Lib.hid HA
 have KB:=Lib.hid HB
 have KF:=Lib.hid HF
 clear HA HB HF
 go_enter Tryz.func189,Tryz.ntmps189
 go_wp2_with fail
 refine(KA.out _).mono ?_
 rintro e w1 ⟨rfl,rfl⟩
 go_wp2_with fail
 refine(KB.out _).mono ?_
 rintro e w1 ⟨rfl,rfl⟩
 go_wp2_with fail
 refine(reckoning_is _).mono ?_
 rintro e w2 ⟨b0,rfl,hm,hb⟩
 have hl:=reckoning_no hm (op:=⟨#[62]⟩) (by decide) (by decide) (by decide) (by decide) (by decide) (by decide)
 go_wp2_with fail
 refine(weighing_is _).mono ?_
 rintro e w3 ⟨b1,rfl,hm,hq⟩
 replace hb:=hb.trans (hq.mono hb.size)
 clear hq hl
 have hl:=weighing_3 hm
 go_wp2_with fail
 refine(KF.out _).mono ?_
 rintro e w4 ⟨rfl,hq⟩
 replace hb:=hb.trans (hq.mono hb.size)
 clear hq
 go_wp2_with fail
 go_ret2
 exact⟨rfl,hb⟩
theorem dy_9 (a b d:ByteArray) (HA:MayIs a true) (HB:MayIs b true) (HF:StIs 247 a b d):DyIs ⟨#[61]⟩ a b d 0:=by
 intro w hw
 have KA:=Lib.hid HA
 have KB:=Lib.hid HB
 have KF:=Lib.hid HF
 clear HA HB HF
 go_enter Tryz.func189,Tryz.ntmps189
 go_wp2_with fail
 refine(KA.out _).mono ?_
 rintro e w1 ⟨rfl,rfl⟩
 go_wp2_with fail
 refine(KB.out _).mono ?_
 rintro e w1 ⟨rfl,rfl⟩
 go_wp2_with fail
 refine(reckoning_is _).mono ?_
 rintro e w2 ⟨b0,rfl,hm,hb⟩
 have hl:=reckoning_no hm (op:=⟨#[61]⟩) (by decide) (by decide) (by decide) (by decide) (by decide) (by decide)
 go_wp2_with fail
 refine(weighing_is _).mono ?_
 rintro e w3 ⟨b1,rfl,hm,hq⟩
 replace hb:=hb.trans (hq.mono hb.size)
 clear hq hl
 have hl:=weighing_4 hm
 go_wp2_with fail
 refine(KF.out _).mono ?_
 rintro e w4 ⟨rfl,hq⟩
 replace hb:=hb.trans (hq.mono hb.size)
 clear hq
 go_wp2_with fail
 go_ret2
 exact⟨rfl,hb⟩
theorem dy_10 (a b d:ByteArray) (HA:MayIs a true) (HB:MayIs b true) (HF:StIs 248 a b d):DyIs ⟨#[126]⟩ a b d 0:=by
 intro w hw
 have KA:=Lib.hid HA
 have KB:=Lib.hid HB
 have KF:=Lib.hid HF
 clear HA HB HF
 go_enter Tryz.func189,Tryz.ntmps189
 go_wp2_with fail
 refine(KA.out _).mono ?_
 rintro e w1 ⟨rfl,rfl⟩
 go_wp2_with fail
 refine(KB.out _).mono ?_
 rintro e w1 ⟨rfl,rfl⟩
 go_wp2_with fail
 refine(reckoning_is _).mono ?_
 rintro e w2 ⟨b0,rfl,hm,hb⟩
 have hl:=reckoning_no hm (op:=⟨#[126]⟩) (by decide) (by decide) (by decide) (by decide) (by decide) (by decide)
 go_wp2_with fail
 refine(weighing_is _).mono ?_
 rintro e w3 ⟨b1,rfl,hm,hq⟩
 replace hb:=hb.trans (hq.mono hb.size)
 clear hq hl
 have hl:=weighing_5 hm
 go_wp2_with fail
 refine(KF.out _).mono ?_
 rintro e w4 ⟨rfl,hq⟩
 replace hb:=hb.trans (hq.mono hb.size)
 clear hq
 go_wp2_with fail
 go_ret2
 exact⟨rfl,hb⟩
theorem dy_11 (op a b:ByteArray) (ho:op.size≤maxLen) (HA:MayIs a true) (HB:MayIs b true) (h0:op≠⟨#[43]⟩) (h1:op≠⟨#[45]⟩) (h2:op≠⟨#[42]⟩) (h3:op≠⟨#[37]⟩) (h4:op≠⟨#[33]⟩) (h5:op≠⟨#[38]⟩) (h6:op≠⟨#[124]⟩) (h7:op≠⟨#[60]⟩) (h8:op≠⟨#[62]⟩) (h9:op≠⟨#[61]⟩) (h10:op≠⟨#[126]⟩):DyIs op a b ⟨#[]⟩ 1:=by
 intro w hw
 have KA:=Lib.hid HA
 have KB:=Lib.hid HB
 have KR:=Lib.hid (fun w b (h:Mq w b RL)=>reckoning_no h ho h0 h1 h2 h3 h4)
 have KW:=Lib.hid (fun w b (h:Mq w b WL)=>weighing_no h ho h5 h6 h7 h8 h9 h10)
 clear HA HB h0 h1 h2 h3 h4 h5 h6 h7 h8 h9 h10
 go_enter Tryz.func189,Tryz.ntmps189
 go_wp2_with fail
 refine(KA.out _).mono ?_
 rintro e w1 ⟨rfl,rfl⟩
 go_wp2_with fail
 refine(KB.out _).mono ?_
 rintro e w1 ⟨rfl,rfl⟩
 go_wp2_with fail
 refine(reckoning_is _).mono ?_
 rintro e w2 ⟨b0,rfl,hm,hb⟩
 have hl:=KR.out _ _ hm
 go_wp2_with fail
 refine(weighing_is _).mono ?_
 rintro e w3 ⟨b1,rfl,hm,hq⟩
 replace hb:=hb.trans (hq.mono hb.size)
 clear hq hl
 have hl:=KW.out _ _ hm
 go_wp2_with fail
 go_ret2
 exact⟨rfl,hb⟩
theorem dy_arg (op a b:ByteArray) (u v:Bool) (HA:MayIs a u) (HB:MayIs b v) (hn:(u&&v)=false):DyIs op a b ⟨#[]⟩ 1:=by
 intro w hw
 have KA:=Lib.hid HA
 have KB:=Lib.hid HB
 clear HA HB
 cases u with
 |false=>
  clear hn
  go_enter Tryz.func189,Tryz.ntmps189
  go_wp2_with fail
  refine(KA.out _).mono ?_
  rintro e w1 ⟨rfl,rfl⟩
  go_wp2_with fail
  go_ret2
  exact⟨rfl,Below.refl _ _⟩
 |true=>
  cases v with
  |true=>exact absurd hn (by decide)
  |false=>
   clear hn
   go_enter Tryz.func189,Tryz.ntmps189
   go_wp2_with fail
   refine(KA.out _).mono ?_
   rintro e w1 ⟨rfl,rfl⟩
   go_wp2_with fail
   refine(KB.out _).mono ?_
   rintro e w1 ⟨rfl,rfl⟩
   go_wp2_with fail
   go_ret2
   exact⟨rfl,Below.refl _ _⟩
theorem mn_0 (a d:ByteArray) (HA:MayIs a true) (HF:ToIs 250 a d):MnIs ⟨#[45]⟩ a d 0:=by
 intro w hw
 have KA:=Lib.hid HA
 have KF:=Lib.hid HF
 clear HA HF
 go_enter Tryz.func197,Tryz.ntmps197
 go_wp2_with fail
 refine(turning_is _).mono ?_
 rintro e w1 ⟨b0,rfl,hm,hb⟩
 have hl:=turning_0 hm
 go_wp2_with fail
 refine(KA.out _).mono ?_
 rintro e w2 ⟨rfl,rfl⟩
 go_wp2_with fail
 refine(KF.out _ (hw.below hb)).mono ?_
 rintro e w3 ⟨rfl,hq⟩
 replace hb:=hb.trans (hq.mono hb.size)
 clear hq
 go_wp2_with fail
 go_ret2
 exact⟨rfl,hb⟩
theorem mn_0_no (a:ByteArray) (HA:MayIs a false):MnIs ⟨#[45]⟩ a ⟨#[]⟩ 1:=by
 intro w hw
 have KA:=Lib.hid HA
 clear HA
 go_enter Tryz.func197,Tryz.ntmps197
 go_wp2_with fail
 refine(turning_is _).mono ?_
 rintro e w1 ⟨b0,rfl,hm,hb⟩
 have hl:=turning_0 hm
 go_wp2_with fail
 refine(KA.out _).mono ?_
 rintro e w2 ⟨rfl,rfl⟩
 go_wp2_with fail
 go_ret2
 exact⟨rfl,hb⟩
theorem mn_1 (a d:ByteArray) (HA:MayIs a true) (HF:ToIs 251 a d):MnIs ⟨#[126]⟩ a d 0:=by
 intro w hw
 have KA:=Lib.hid HA
 have KF:=Lib.hid HF
 clear HA HF
 go_enter Tryz.func197,Tryz.ntmps197
 go_wp2_with fail
 refine(turning_is _).mono ?_
 rintro e w1 ⟨b0,rfl,hm,hb⟩
 have hl:=turning_1 hm
 go_wp2_with fail
 refine(KA.out _).mono ?_
 rintro e w2 ⟨rfl,rfl⟩
 go_wp2_with fail
 refine(KF.out _ (hw.below hb)).mono ?_
 rintro e w3 ⟨rfl,hq⟩
 replace hb:=hb.trans (hq.mono hb.size)
 clear hq
 go_wp2_with fail
 go_ret2
 exact⟨rfl,hb⟩
theorem mn_1_no (a:ByteArray) (HA:MayIs a false):MnIs ⟨#[126]⟩ a ⟨#[]⟩ 1:=by
 intro w hw
 have KA:=Lib.hid HA
 clear HA
 go_enter Tryz.func197,Tryz.ntmps197
 go_wp2_with fail
 refine(turning_is _).mono ?_
 rintro e w1 ⟨b0,rfl,hm,hb⟩
 have hl:=turning_1 hm
 go_wp2_with fail
 refine(KA.out _).mono ?_
 rintro e w2 ⟨rfl,rfl⟩
 go_wp2_with fail
 go_ret2
 exact⟨rfl,hb⟩
theorem mn_2 (a d:ByteArray) (HA:MayIs a true) (HF:ToIs 253 a d):MnIs ⟨#[42]⟩ a d 0:=by
 intro w hw
 have KA:=Lib.hid HA
 have KF:=Lib.hid HF
 clear HA HF
 go_enter Tryz.func197,Tryz.ntmps197
 go_wp2_with fail
 refine(turning_is _).mono ?_
 rintro e w1 ⟨b0,rfl,hm,hb⟩
 have hl:=turning_2 hm
 go_wp2_with fail
 refine(KA.out _).mono ?_
 rintro e w2 ⟨rfl,rfl⟩
 go_wp2_with fail
 refine(KF.out _ (hw.below hb)).mono ?_
 rintro e w3 ⟨rfl,hq⟩
 replace hb:=hb.trans (hq.mono hb.size)
 clear hq
 go_wp2_with fail
 go_ret2
 exact⟨rfl,hb⟩
theorem mn_2_no (a:ByteArray) (HA:MayIs a false):MnIs ⟨#[42]⟩ a ⟨#[]⟩ 1:=by
 intro w hw
 have KA:=Lib.hid HA
 clear HA
 go_enter Tryz.func197,Tryz.ntmps197
 go_wp2_with fail
 refine(turning_is _).mono ?_
 rintro e w1 ⟨b0,rfl,hm,hb⟩
 have hl:=turning_2 hm
 go_wp2_with fail
 refine(KA.out _).mono ?_
 rintro e w2 ⟨rfl,rfl⟩
 go_wp2_with fail
 go_ret2
 exact⟨rfl,hb⟩
theorem mn_3 (op a:ByteArray) (ho:op.size≤maxLen) (h0:op≠⟨#[45]⟩) (h1:op≠⟨#[126]⟩) (h2:op≠⟨#[42]⟩):MnIs op a ⟨#[]⟩ 1:=by
 intro w hw
 have KM:=Lib.hid (fun w b (h:Mq w b ML)=>turning_no h ho h0 h1 h2)
 clear h0 h1 h2
 go_enter Tryz.func197,Tryz.ntmps197
 go_wp2_with fail
 refine(turning_is _).mono ?_
 rintro e w1 ⟨b0,rfl,hm,hb⟩
 have hl:=KM.out _ _ hm
 go_wp2_with fail
 go_ret2
 exact⟨rfl,hb⟩
theorem cmpI_lt {x y:Int} (h:x<y):cmpI x y= -1:=by unfold cmpI;rw[if_pos h]
theorem cmpI_gt {x y:Int} (h:y<x):cmpI x y=1:=by unfold cmpI;rw[if_neg (by omega),if_pos h]
theorem cmpI_eq (x:Int):cmpI x x=0:=by unfold cmpI;rw[if_neg (by omega),if_neg (by omega)]
theorem T_bit (b:Bool):T (some (bI b))=if b then⟨#[49]⟩else⟨#[48]⟩:=by
 cases b
 · exact S_0
 · exact S_1
theorem dy_ok:DyOk:=by
 intro op s t o p ho hs ht
 have MA:MayIs s o.isSome:=fun w=>May_opt w hs
 have MB:MayIs t p.isSome:=fun w=>May_opt w ht
 cases hn:(o.isSome&&p.isSome)
 · rw[dyO_arg hn]
   exact dy_arg op s t _ _ MA MB hn
 · cases o with
   |none=>cases hn
   |some x=>
   cases p with
   |none=>cases hn
   |some y=>
   have HC:CmpIs s t (cmpI x y):=fun w=>Cmp_opt w hs ht
   obtain⟨k,hk⟩:∃k,kdL op.data.toList=k:=⟨_,rfl⟩
   rw[hk]
   have hx:=hs.1
   have hy:=ht.1
   rcases kdL_inv hk with⟨rfl,h⟩|⟨rfl,h⟩|⟨rfl,h⟩|⟨rfl,h⟩|⟨rfl,h⟩|⟨rfl,h⟩|⟨rfl,h⟩|⟨rfl,h⟩|⟨rfl,h⟩|⟨rfl,h⟩|⟨rfl,h⟩|⟨rfl,h0,h1,h2,h3,h4,h5,h6,h7,h8,h9,h10⟩
   · rw[bytes_is h];exact dy_0 s t _ _ MA MB (fun w hw=>Add_dy w hs ht hw.tab)
   · rw[bytes_is h];exact dy_1 s t _ _ MA MB (fun w hw=>Sub_dy w hs ht hw.tab)
   · rw[bytes_is h];exact dy_2 s t _ _ MA MB (fun w hw=>Mul_dy w hs ht hw.tab)
   · rw[bytes_is h];exact dy_3 s t _ _ MA MB (fun w hw=>Div_dy w hs ht hw.tab)
   · rw[bytes_is h];exact dy_4 s t _ _ MA MB (fun w hw=>Mod_dy w hs ht hw.tab)
   · rw[bytes_is h]
     refine dy_5 s t _ MA MB (weigh_5 s t _ _ HC ?_)
     show(cmpI x y<0∧S (if x≤y then x else y)=s)∨(¬cmpI x y<0∧S (if x≤y then x else y)=t)
     rw[hx,hy]
     rcases Int.lt_trichotomy x y with g|g|g
     · rw[cmpI_lt g,if_pos (by omega)];exact .inl ⟨by decide,rfl⟩
     · subst g;rw[cmpI_eq,if_pos (by omega)];exact .inr ⟨by decide,rfl⟩
     · rw[cmpI_gt g,if_neg (by omega)];exact .inr ⟨by decide,rfl⟩
   · rw[bytes_is h]
     refine dy_6 s t _ MA MB (weigh_6 s t _ _ HC ?_)
     show(0<cmpI x y∧S (if x≤y then y else x)=s)∨(¬0<cmpI x y∧S (if x≤y then y else x)=t)
     rw[hx,hy]
     rcases Int.lt_trichotomy x y with g|g|g
     · rw[cmpI_lt g,if_pos (by omega)];exact .inr ⟨by decide,rfl⟩
     · subst g;rw[cmpI_eq,if_pos (by omega)];exact .inr ⟨by decide,rfl⟩
     · rw[cmpI_gt g,if_neg (by omega)];exact .inl ⟨by decide,rfl⟩
   · rw[bytes_is h]
     refine dy_7 s t _ MA MB (weigh_7 s t _ _ HC ?_)
     have e:T (dyO 7 (some x) (some y)).1=if(decide (x<y))=true then⟨#[49]⟩else⟨#[48]⟩:=T_bit _
     rw[e]
     rcases Int.lt_trichotomy x y with g|g|g
     · rw[cmpI_lt g];exact .inl ⟨rfl,by simp;omega⟩
     · subst g;rw[cmpI_eq];exact .inr (.inl ⟨rfl,by simp⟩)
     · rw[cmpI_gt g];exact .inr (.inr ⟨rfl,by simp;omega⟩)
   · rw[bytes_is h]
     refine dy_8 s t _ MA MB (weigh_8 s t _ _ HC ?_)
     have e:T (dyO 8 (some x) (some y)).1=if(decide (y<x))=true then⟨#[49]⟩else⟨#[48]⟩:=T_bit _
     rw[e]
     rcases Int.lt_trichotomy x y with g|g|g
     · rw[cmpI_lt g];exact .inl ⟨rfl,by simp;omega⟩
     · subst g;rw[cmpI_eq];exact .inr (.inl ⟨rfl,by simp⟩)
     · rw[cmpI_gt g];exact .inr (.inr ⟨rfl,by simp;omega⟩)
   · rw[bytes_is h]
     refine dy_9 s t _ MA MB (weigh_9 s t _ _ HC ?_)
     have e:T (dyO 9 (some x) (some y)).1=if(decide (x=y))=true then⟨#[49]⟩else⟨#[48]⟩:=T_bit _
     rw[e]
     rcases Int.lt_trichotomy x y with g|g|g
     · rw[cmpI_lt g];exact .inl ⟨rfl,by simp;omega⟩
     · subst g;rw[cmpI_eq];exact .inr (.inl ⟨rfl,by simp⟩)
     · rw[cmpI_gt g];exact .inr (.inr ⟨rfl,by simp;omega⟩)
   · rw[bytes_is h]
     refine dy_10 s t _ MA MB (weigh_10 s t _ _ HC ?_)
     have e:T (dyO 10 (some x) (some y)).1=if(!decide (x=y))=true then⟨#[49]⟩else⟨#[48]⟩:=T_bit _
     rw[e]
     rcases Int.lt_trichotomy x y with g|g|g
     · rw[cmpI_lt g];exact .inl ⟨rfl,by simp;omega⟩
     · subst g;rw[cmpI_eq];exact .inr (.inl ⟨rfl,by simp⟩)
     · rw[cmpI_gt g];exact .inr (.inr ⟨rfl,by simp;omega⟩)
   · exact dy_11 op s t ho MA MB (fun e=>h0 (by rw[e])) (fun e=>h1 (by rw[e])) (fun e=>h2 (by rw[e])) (fun e=>h3 (by rw[e])) (fun e=>h4 (by rw[e])) (fun e=>h5 (by rw[e])) (fun e=>h6 (by rw[e])) (fun e=>h7 (by rw[e])) (fun e=>h8 (by rw[e])) (fun e=>h9 (by rw[e])) (fun e=>h10 (by rw[e]))
theorem mn_ok:MnOk:=by
 intro op s o ho hs
 have MA:MayIs s o.isSome:=fun w=>May_opt w hs
 obtain⟨k,hk⟩:∃k,kmL op.data.toList=k:=⟨_,rfl⟩
 rw[hk]
 cases o with
 |none=>
  rcases kmL_inv hk with⟨rfl,h⟩|⟨rfl,h⟩|⟨rfl,h⟩|⟨rfl,h0,h1,h2⟩
  · rw[bytes_is h];exact mn_0_no s MA
  · rw[bytes_is h];exact mn_1_no s MA
  · rw[bytes_is h];exact mn_2_no s MA
  · exact mn_3 op s ho (fun e=>h0 (by rw[e])) (fun e=>h1 (by rw[e])) (fun e=>h2 (by rw[e]))
 |some x=>
  have HS:SignIs s x.sign:=fun w=>Sign_opt w hs
  have hsg: -1≤x.sign∧x.sign≤1:=by
   rcases Int.lt_trichotomy x 0 with g|g|g
   · rw[Int.sign_eq_neg_one_of_neg g];decide
   · subst g;decide
   · rw[Int.sign_eq_one_of_pos g];decide
  rcases kmL_inv hk with⟨rfl,h⟩|⟨rfl,h⟩|⟨rfl,h⟩|⟨rfl,h0,h1,h2⟩
  · rw[bytes_is h];exact mn_0 s _ MA (fun w hw=>Neg_opt w hs hw.tab)
  · rw[bytes_is h]
    refine mn_1 s _ MA (turn_1 s _ _ HS ?_)
    have e:T (mnO 1 (some x)).1=if(decide (x=0))=true then⟨#[49]⟩else⟨#[48]⟩:=T_bit _
    rw[e]
    by_cases g:x=0
    · subst g;exact .inl ⟨rfl,by simp⟩
    · exact .inr ⟨by rw[Int.sign_eq_zero_iff_zero];exact g,by simp[g]⟩
  · rw[bytes_is h]
    exact mn_2 s _ MA (turn_2 s _ _ HS (fun w ht=>Of_any x.sign (by omega) (by omega) w ht) hsg.1 hsg.2)
  · exact mn_3 op s ho (fun e=>h0 (by rw[e])) (fun e=>h1 (by rw[e])) (fun e=>h2 (by rw[e]))
end Go.Proofs.YtbijncndjlmmdaaGreatDoor
namespace Go.Proofs.YtbijncndjlmmdaaGreatDoor
set_option linter.unusedVariables false
set_option linter.unusedSimpArgs false
open Go.RowKit
def IntEnd (v:Int) (W:World) (e:Ending) (W':World):Prop:=e=.returned (.int .i64 v)∧Below W.heap.size W W'
end Go.Proofs.YtbijncndjlmmdaaGreatDoor

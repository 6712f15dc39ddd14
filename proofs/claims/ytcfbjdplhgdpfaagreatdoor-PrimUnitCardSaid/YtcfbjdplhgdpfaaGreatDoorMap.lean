import Derived.Test.YtcfbjdplhgdpfaaGreatDoorMan
import Derived.Test.YtcfbjdplhgdpfaaGreatDoorMak
set_option maxHeartbeats 1600000
set_option maxRecDepth 100000
namespace Go.Proofs.YtcfbjdplhgdpfaaGreatDoor
set_option linter.unusedVariables false
set_option linter.unusedSimpArgs false
open Go.RowKit
theorem dyO_0 (o p:Option Int):dyO 0 o p=(op (fun x y=>x+y) o p,opE (fun x y=>x+y) o p):=by
 cases o<;>cases p<;>simp only[dyO,dyI,tlI,op,opE,toldE]<;>split<;>rfl
theorem dyO_1 (o p:Option Int):dyO 1 o p=(op (fun x y=>x-y) o p,opE (fun x y=>x-y) o p):=by
 cases o<;>cases p<;>simp only[dyO,dyI,tlI,op,opE,toldE]<;>split<;>rfl
theorem dyO_2 (o p:Option Int):dyO 2 o p=(op (fun x y=>x*y) o p,opE (fun x y=>x*y) o p):=by
 cases o<;>cases p<;>simp only[dyO,dyI,tlI,op,opE,toldE]<;>split<;>rfl
theorem dyO_arg {k:Nat} {o p:Option Int} (hn:(o.isSome&&p.isSome)=false):dyO k o p=(none,1):=by
 cases o<;>cases p<;>first|rfl|exact absurd hn (by simp)
theorem dyO_by0 {k:Nat} (hk:k=3∨k=4) (x:Int):dyO k (some x) (some 0)=(none,5):=by
 rcases hk with h|h<;>subst h<;>rfl
theorem dyO_3 {x y:Int} (hy:y≠0):dyO 3 (some x) (some y)=(some (fq x y),0):=by
 simp only[dyO,dyI];rw[if_neg hy]
theorem dyO_4 {x y:Int} (hy:y≠0):dyO 4 (some x) (some y)=(some (fr x y),0):=by
 simp only[dyO,dyI];rw[if_neg hy]
theorem Add_dy {s t:ByteArray} {o p:Option Int} (w:World) (hs:Is s o) (ht:Is t p) (htab:Tab w):Calls Tryz.prog 200 #[.string s,.string t] w (OptPost (dyO 0 o p).1 (dyO 0 o p).2 w):=by
 rw[dyO_0];exact Add_opt w hs ht htab
theorem Sub_dy {s t:ByteArray} {o p:Option Int} (w:World) (hs:Is s o) (ht:Is t p) (htab:Tab w):Calls Tryz.prog 201 #[.string s,.string t] w (OptPost (dyO 1 o p).1 (dyO 1 o p).2 w):=by
 rw[dyO_1];exact Sub_opt w hs ht htab
theorem Mul_dy {s t:ByteArray} {o p:Option Int} (w:World) (hs:Is s o) (ht:Is t p) (htab:Tab w):Calls Tryz.prog 202 #[.string s,.string t] w (OptPost (dyO 2 o p).1 (dyO 2 o p).2 w):=by
 rw[dyO_2];exact Mul_opt w hs ht htab
theorem Div_dy {s t:ByteArray} {o p:Option Int} (w:World) (hs:Is s o) (ht:Is t p) (htab:Tab w):Calls Tryz.prog 203 #[.string s,.string t] w (OptPost (dyO 3 o p).1 (dyO 3 o p).2 w):=by
 cases hn:(o.isSome&&p.isSome)
 · rw[dyO_arg hn]
   exact Div_no s t w hs.size ht.size (two_no hs ht hn)
 · cases o<;>cases p<;>simp at hn
   rename_i x y
   rw[hs.1,ht.1]
   by_cases hy:y=0
   · subst hy
     rw[dyO_by0 (.inl rfl)]
     exact Div_zero x w hs.2 htab
   · rw[dyO_3 hy]
     have hq:(fq x y).natAbs<lim:=Nat.lt_of_le_of_lt (fq_abs x y hy) hs.2
     have h:=Div_yes x y w hs.2 ht.2 hy htab
     unfold OpPost at h
     rw[toldR_yes hq,toldE_yes hq]at h
     exact h
theorem Mod_dy {s t:ByteArray} {o p:Option Int} (w:World) (hs:Is s o) (ht:Is t p) (htab:Tab w):Calls Tryz.prog 204 #[.string s,.string t] w (OptPost (dyO 4 o p).1 (dyO 4 o p).2 w):=by
 cases hn:(o.isSome&&p.isSome)
 · rw[dyO_arg hn]
   exact Mod_no s t w hs.size ht.size (two_no hs ht hn)
 · cases o<;>cases p<;>simp at hn
   rename_i x y
   rw[hs.1,ht.1]
   by_cases hy:y=0
   · subst hy
     rw[dyO_by0 (.inr rfl)]
     exact Mod_zero x w hs.2 htab
   · rw[dyO_4 hy]
     have hq:(fr x y).natAbs<lim:=Nat.lt_of_le_of_lt (fr_abs x y hy) ht.2
     have h:=Mod_yes x y w hs.2 ht.2 hy htab
     unfold OpPost at h
     rw[toldR_yes hq,toldE_yes hq]at h
     exact h
end Go.Proofs.YtcfbjdplhgdpfaaGreatDoor
namespace Go.Proofs.YtcfbjdplhgdpfaaGreatDoor
set_option linter.unusedVariables false
set_option linter.unusedSimpArgs false
open Go.RowKit Go.Maps Go.MapKept Go.WideMaps
def RL:List (Value×Value):=[(.string ⟨#[43]⟩,.func (.func 200) #[] #[]),(.string ⟨#[45]⟩,.func (.func 201) #[] #[]),(.string ⟨#[42]⟩,.func (.func 202) #[] #[]),(.string ⟨#[37]⟩,.func (.func 203) #[] #[]),(.string ⟨#[33]⟩,.func (.func 204) #[] #[])]
def WL:List (Value×Value):=[(.string ⟨#[38]⟩,.func (.func 205) #[] #[]),(.string ⟨#[124]⟩,.func (.func 206) #[] #[]),(.string ⟨#[60]⟩,.func (.func 207) #[] #[]),(.string ⟨#[62]⟩,.func (.func 209) #[] #[]),(.string ⟨#[61]⟩,.func (.func 210) #[] #[]),(.string ⟨#[126]⟩,.func (.func 211) #[] #[])]
def ML:List (Value×Value):=[(.string ⟨#[45]⟩,.func (.func 195) #[] #[]),(.string ⟨#[126]⟩,.func (.func 196) #[] #[]),(.string ⟨#[42]⟩,.func (.func 199) #[] #[])]
theorem reckoning_is (W:World):Calls Tryz.prog 181 #[] W fun e W'=>∃b,e=.returned (.map (some b))∧Mq W' b RL∧Below W.heap.size W W':=by
 have hmm:=@run_makeMap Tryz.prog
 have hT:=Mq.made W
 have hB:Below W.heap.size W (W.alloc (.map #[] 0)):=(Below.refl _ _).alloc (Nat.le_refl _) _
 go_enter Tryz.func181,Tryz.ntmps181
 go_wp2_with (first
  |(refine wpList_mput _ rfl _ _ _ 175 rfl 9 136 Tryz.underlying175 (string_keyed Tryz.underlying9) W.heap.size [] rfl hT (.string ⟨#[43]⟩) (.func (.func 200) #[] #[]) rfl rfl _ (keyOf_string_mk Tryz.underlying9 (by decide)) (fun _ h=>by cases h) (by simp) ?_;clear hT;intro w1 hT hg;replace hB:=mgrown hB hg (Nat.le_refl _) hB.size;clear hg)
  |(refine wpList_mput _ rfl _ _ _ 175 rfl 9 136 Tryz.underlying175 (string_keyed Tryz.underlying9) W.heap.size [(.string ⟨#[43]⟩,.func (.func 200) #[] #[])] rfl hT (.string ⟨#[45]⟩) (.func (.func 201) #[] #[]) rfl rfl _ (keyOf_string_mk Tryz.underlying9 (by decide)) (by simp only[List.forall_mem_cons];exact⟨⟨_,keyOf_string_mk Tryz.underlying9 (by decide)⟩,fun _ h=>by cases h⟩) (by simp) ?_;clear hT;intro w1 hT hg;replace hB:=mgrown hB hg (Nat.le_refl _) hB.size;clear hg)
  |(refine wpList_mput _ rfl _ _ _ 175 rfl 9 136 Tryz.underlying175 (string_keyed Tryz.underlying9) W.heap.size [(.string ⟨#[43]⟩,.func (.func 200) #[] #[]),(.string ⟨#[45]⟩,.func (.func 201) #[] #[])] rfl hT (.string ⟨#[42]⟩) (.func (.func 202) #[] #[]) rfl rfl _ (keyOf_string_mk Tryz.underlying9 (by decide)) (by simp only[List.forall_mem_cons];exact⟨⟨_,keyOf_string_mk Tryz.underlying9 (by decide)⟩,⟨_,keyOf_string_mk Tryz.underlying9 (by decide)⟩,fun _ h=>by cases h⟩) (by simp) ?_;clear hT;intro w1 hT hg;replace hB:=mgrown hB hg (Nat.le_refl _) hB.size;clear hg)
  |(refine wpList_mput _ rfl _ _ _ 175 rfl 9 136 Tryz.underlying175 (string_keyed Tryz.underlying9) W.heap.size [(.string ⟨#[43]⟩,.func (.func 200) #[] #[]),(.string ⟨#[45]⟩,.func (.func 201) #[] #[]),(.string ⟨#[42]⟩,.func (.func 202) #[] #[])] rfl hT (.string ⟨#[37]⟩) (.func (.func 203) #[] #[]) rfl rfl _ (keyOf_string_mk Tryz.underlying9 (by decide)) (by simp only[List.forall_mem_cons];exact⟨⟨_,keyOf_string_mk Tryz.underlying9 (by decide)⟩,⟨_,keyOf_string_mk Tryz.underlying9 (by decide)⟩,⟨_,keyOf_string_mk Tryz.underlying9 (by decide)⟩,fun _ h=>by cases h⟩) (by simp) ?_;clear hT;intro w1 hT hg;replace hB:=mgrown hB hg (Nat.le_refl _) hB.size;clear hg)
  |(refine wpList_mput _ rfl _ _ _ 175 rfl 9 136 Tryz.underlying175 (string_keyed Tryz.underlying9) W.heap.size [(.string ⟨#[43]⟩,.func (.func 200) #[] #[]),(.string ⟨#[45]⟩,.func (.func 201) #[] #[]),(.string ⟨#[42]⟩,.func (.func 202) #[] #[]),(.string ⟨#[37]⟩,.func (.func 203) #[] #[])] rfl hT (.string ⟨#[33]⟩) (.func (.func 204) #[] #[]) rfl rfl _ (keyOf_string_mk Tryz.underlying9 (by decide)) (by simp only[List.forall_mem_cons];exact⟨⟨_,keyOf_string_mk Tryz.underlying9 (by decide)⟩,⟨_,keyOf_string_mk Tryz.underlying9 (by decide)⟩,⟨_,keyOf_string_mk Tryz.underlying9 (by decide)⟩,⟨_,keyOf_string_mk Tryz.underlying9 (by decide)⟩,fun _ h=>by cases h⟩) (by simp) ?_;clear hT;intro w1 hT hg;replace hB:=mgrown hB hg (Nat.le_refl _) hB.size;clear hg)
  |fail)
 go_ret
 exact⟨_,rfl,hT,hB⟩
theorem reckoning_keys:∀p∈RL,∃m,keyOf Tryz.prog 9 p.1=some m:=by
 unfold RL
 simp only[List.forall_mem_cons]
 exact⟨⟨_,keyOf_string_mk Tryz.underlying9 (by decide)⟩,⟨_,keyOf_string_mk Tryz.underlying9 (by decide)⟩,⟨_,keyOf_string_mk Tryz.underlying9 (by decide)⟩,⟨_,keyOf_string_mk Tryz.underlying9 (by decide)⟩,⟨_,keyOf_string_mk Tryz.underlying9 (by decide)⟩,fun _ h=>by cases h⟩
theorem reckoning_0 {w:World} {b:Nat} (h:Mq w b RL):(Instr.lookup 175 (.map (some b)) (.string ⟨#[43]⟩) true).run Tryz.prog w=.ok (.tuple #[.func (.func 200) #[] #[],.bool true]) w:=
 h.look Tryz.underlying175 (string_keyed Tryz.underlying9) (keyOf_string_mk Tryz.underlying9 (by decide)) (v:=.func (.func 200) #[] #[]) true reckoning_keys ⟨.func (.func 200) #[] #[],by simp[RL]⟩ (by simp[RL])
theorem reckoning_1 {w:World} {b:Nat} (h:Mq w b RL):(Instr.lookup 175 (.map (some b)) (.string ⟨#[45]⟩) true).run Tryz.prog w=.ok (.tuple #[.func (.func 201) #[] #[],.bool true]) w:=
 h.look Tryz.underlying175 (string_keyed Tryz.underlying9) (keyOf_string_mk Tryz.underlying9 (by decide)) (v:=.func (.func 201) #[] #[]) true reckoning_keys ⟨.func (.func 201) #[] #[],by simp[RL]⟩ (by simp[RL])
theorem reckoning_2 {w:World} {b:Nat} (h:Mq w b RL):(Instr.lookup 175 (.map (some b)) (.string ⟨#[42]⟩) true).run Tryz.prog w=.ok (.tuple #[.func (.func 202) #[] #[],.bool true]) w:=
 h.look Tryz.underlying175 (string_keyed Tryz.underlying9) (keyOf_string_mk Tryz.underlying9 (by decide)) (v:=.func (.func 202) #[] #[]) true reckoning_keys ⟨.func (.func 202) #[] #[],by simp[RL]⟩ (by simp[RL])
theorem reckoning_3 {w:World} {b:Nat} (h:Mq w b RL):(Instr.lookup 175 (.map (some b)) (.string ⟨#[37]⟩) true).run Tryz.prog w=.ok (.tuple #[.func (.func 203) #[] #[],.bool true]) w:=
 h.look Tryz.underlying175 (string_keyed Tryz.underlying9) (keyOf_string_mk Tryz.underlying9 (by decide)) (v:=.func (.func 203) #[] #[]) true reckoning_keys ⟨.func (.func 203) #[] #[],by simp[RL]⟩ (by simp[RL])
theorem reckoning_4 {w:World} {b:Nat} (h:Mq w b RL):(Instr.lookup 175 (.map (some b)) (.string ⟨#[33]⟩) true).run Tryz.prog w=.ok (.tuple #[.func (.func 204) #[] #[],.bool true]) w:=
 h.look Tryz.underlying175 (string_keyed Tryz.underlying9) (keyOf_string_mk Tryz.underlying9 (by decide)) (v:=.func (.func 204) #[] #[]) true reckoning_keys ⟨.func (.func 204) #[] #[],by simp[RL]⟩ (by simp[RL])
theorem reckoning_no {w:World} {b:Nat} (h:Mq w b RL) {op:ByteArray} (ho:op.size≤maxLen) (h0:op≠⟨#[43]⟩) (h1:op≠⟨#[45]⟩) (h2:op≠⟨#[42]⟩) (h3:op≠⟨#[37]⟩) (h4:op≠⟨#[33]⟩):(Instr.lookup 175 (.map (some b)) (.string op) true).run Tryz.prog w=.ok (.tuple #[.nilFunc,.bool false]) w:=by
 refine h.miss Tryz.underlying175 (string_keyed Tryz.underlying9) (keyOf_string_mk Tryz.underlying9 ho) true (by kernel_rfl) reckoning_keys ?_
 unfold RL
 simp only[List.forall_mem_cons]
 exact⟨fun e=>h0 (by injection e with e;exact e.symm),fun e=>h1 (by injection e with e;exact e.symm),fun e=>h2 (by injection e with e;exact e.symm),fun e=>h3 (by injection e with e;exact e.symm),fun e=>h4 (by injection e with e;exact e.symm),fun _ h=>by cases h⟩
theorem weighing_is (W:World):Calls Tryz.prog 182 #[] W fun e W'=>∃b,e=.returned (.map (some b))∧Mq W' b WL∧Below W.heap.size W W':=by
 have hmm:=@run_makeMap Tryz.prog
 have hT:=Mq.made W
 have hB:Below W.heap.size W (W.alloc (.map #[] 0)):=(Below.refl _ _).alloc (Nat.le_refl _) _
 go_enter Tryz.func182,Tryz.ntmps182
 go_wp2_with (first
  |(refine wpList_mput _ rfl _ _ _ 178 rfl 9 91 Tryz.underlying178 (string_keyed Tryz.underlying9) W.heap.size [] rfl hT (.string ⟨#[38]⟩) (.func (.func 205) #[] #[]) rfl rfl _ (keyOf_string_mk Tryz.underlying9 (by decide)) (fun _ h=>by cases h) (by simp) ?_;clear hT;intro w1 hT hg;replace hB:=mgrown hB hg (Nat.le_refl _) hB.size;clear hg)
  |(refine wpList_mput _ rfl _ _ _ 178 rfl 9 91 Tryz.underlying178 (string_keyed Tryz.underlying9) W.heap.size [(.string ⟨#[38]⟩,.func (.func 205) #[] #[])] rfl hT (.string ⟨#[124]⟩) (.func (.func 206) #[] #[]) rfl rfl _ (keyOf_string_mk Tryz.underlying9 (by decide)) (by simp only[List.forall_mem_cons];exact⟨⟨_,keyOf_string_mk Tryz.underlying9 (by decide)⟩,fun _ h=>by cases h⟩) (by simp) ?_;clear hT;intro w1 hT hg;replace hB:=mgrown hB hg (Nat.le_refl _) hB.size;clear hg)
  |(refine wpList_mput _ rfl _ _ _ 178 rfl 9 91 Tryz.underlying178 (string_keyed Tryz.underlying9) W.heap.size [(.string ⟨#[38]⟩,.func (.func 205) #[] #[]),(.string ⟨#[124]⟩,.func (.func 206) #[] #[])] rfl hT (.string ⟨#[60]⟩) (.func (.func 207) #[] #[]) rfl rfl _ (keyOf_string_mk Tryz.underlying9 (by decide)) (by simp only[List.forall_mem_cons];exact⟨⟨_,keyOf_string_mk Tryz.underlying9 (by decide)⟩,⟨_,keyOf_string_mk Tryz.underlying9 (by decide)⟩,fun _ h=>by cases h⟩) (by simp) ?_;clear hT;intro w1 hT hg;replace hB:=mgrown hB hg (Nat.le_refl _) hB.size;clear hg)
  |(refine wpList_mput _ rfl _ _ _ 178 rfl 9 91 Tryz.underlying178 (string_keyed Tryz.underlying9) W.heap.size [(.string ⟨#[38]⟩,.func (.func 205) #[] #[]),(.string ⟨#[124]⟩,.func (.func 206) #[] #[]),(.string ⟨#[60]⟩,.func (.func 207) #[] #[])] rfl hT (.string ⟨#[62]⟩) (.func (.func 209) #[] #[]) rfl rfl _ (keyOf_string_mk Tryz.underlying9 (by decide)) (by simp only[List.forall_mem_cons];exact⟨⟨_,keyOf_string_mk Tryz.underlying9 (by decide)⟩,⟨_,keyOf_string_mk Tryz.underlying9 (by decide)⟩,⟨_,keyOf_string_mk Tryz.underlying9 (by decide)⟩,fun _ h=>by cases h⟩) (by simp) ?_;clear hT;intro w1 hT hg;replace hB:=mgrown hB hg (Nat.le_refl _) hB.size;clear hg)
  |(refine wpList_mput _ rfl _ _ _ 178 rfl 9 91 Tryz.underlying178 (string_keyed Tryz.underlying9) W.heap.size [(.string ⟨#[38]⟩,.func (.func 205) #[] #[]),(.string ⟨#[124]⟩,.func (.func 206) #[] #[]),(.string ⟨#[60]⟩,.func (.func 207) #[] #[]),(.string ⟨#[62]⟩,.func (.func 209) #[] #[])] rfl hT (.string ⟨#[61]⟩) (.func (.func 210) #[] #[]) rfl rfl _ (keyOf_string_mk Tryz.underlying9 (by decide)) (by simp only[List.forall_mem_cons];exact⟨⟨_,keyOf_string_mk Tryz.underlying9 (by decide)⟩,⟨_,keyOf_string_mk Tryz.underlying9 (by decide)⟩,⟨_,keyOf_string_mk Tryz.underlying9 (by decide)⟩,⟨_,keyOf_string_mk Tryz.underlying9 (by decide)⟩,fun _ h=>by cases h⟩) (by simp) ?_;clear hT;intro w1 hT hg;replace hB:=mgrown hB hg (Nat.le_refl _) hB.size;clear hg)
  |(refine wpList_mput _ rfl _ _ _ 178 rfl 9 91 Tryz.underlying178 (string_keyed Tryz.underlying9) W.heap.size [(.string ⟨#[38]⟩,.func (.func 205) #[] #[]),(.string ⟨#[124]⟩,.func (.func 206) #[] #[]),(.string ⟨#[60]⟩,.func (.func 207) #[] #[]),(.string ⟨#[62]⟩,.func (.func 209) #[] #[]),(.string ⟨#[61]⟩,.func (.func 210) #[] #[])] rfl hT (.string ⟨#[126]⟩) (.func (.func 211) #[] #[]) rfl rfl _ (keyOf_string_mk Tryz.underlying9 (by decide)) (by simp only[List.forall_mem_cons];exact⟨⟨_,keyOf_string_mk Tryz.underlying9 (by decide)⟩,⟨_,keyOf_string_mk Tryz.underlying9 (by decide)⟩,⟨_,keyOf_string_mk Tryz.underlying9 (by decide)⟩,⟨_,keyOf_string_mk Tryz.underlying9 (by decide)⟩,⟨_,keyOf_string_mk Tryz.underlying9 (by decide)⟩,fun _ h=>by cases h⟩) (by simp) ?_;clear hT;intro w1 hT hg;replace hB:=mgrown hB hg (Nat.le_refl _) hB.size;clear hg)
  |fail)
 go_ret
 exact⟨_,rfl,hT,hB⟩
theorem weighing_keys:∀p∈WL,∃m,keyOf Tryz.prog 9 p.1=some m:=by
 unfold WL
 simp only[List.forall_mem_cons]
 exact⟨⟨_,keyOf_string_mk Tryz.underlying9 (by decide)⟩,⟨_,keyOf_string_mk Tryz.underlying9 (by decide)⟩,⟨_,keyOf_string_mk Tryz.underlying9 (by decide)⟩,⟨_,keyOf_string_mk Tryz.underlying9 (by decide)⟩,⟨_,keyOf_string_mk Tryz.underlying9 (by decide)⟩,⟨_,keyOf_string_mk Tryz.underlying9 (by decide)⟩,fun _ h=>by cases h⟩
theorem weighing_0 {w:World} {b:Nat} (h:Mq w b WL):(Instr.lookup 178 (.map (some b)) (.string ⟨#[38]⟩) true).run Tryz.prog w=.ok (.tuple #[.func (.func 205) #[] #[],.bool true]) w:=
 h.look Tryz.underlying178 (string_keyed Tryz.underlying9) (keyOf_string_mk Tryz.underlying9 (by decide)) (v:=.func (.func 205) #[] #[]) true weighing_keys ⟨.func (.func 205) #[] #[],by simp[WL]⟩ (by simp[WL])
theorem weighing_1 {w:World} {b:Nat} (h:Mq w b WL):(Instr.lookup 178 (.map (some b)) (.string ⟨#[124]⟩) true).run Tryz.prog w=.ok (.tuple #[.func (.func 206) #[] #[],.bool true]) w:=
 h.look Tryz.underlying178 (string_keyed Tryz.underlying9) (keyOf_string_mk Tryz.underlying9 (by decide)) (v:=.func (.func 206) #[] #[]) true weighing_keys ⟨.func (.func 206) #[] #[],by simp[WL]⟩ (by simp[WL])
theorem weighing_2 {w:World} {b:Nat} (h:Mq w b WL):(Instr.lookup 178 (.map (some b)) (.string ⟨#[60]⟩) true).run Tryz.prog w=.ok (.tuple #[.func (.func 207) #[] #[],.bool true]) w:=
 h.look Tryz.underlying178 (string_keyed Tryz.underlying9) (keyOf_string_mk Tryz.underlying9 (by decide)) (v:=.func (.func 207) #[] #[]) true weighing_keys ⟨.func (.func 207) #[] #[],by simp[WL]⟩ (by simp[WL])
theorem weighing_3 {w:World} {b:Nat} (h:Mq w b WL):(Instr.lookup 178 (.map (some b)) (.string ⟨#[62]⟩) true).run Tryz.prog w=.ok (.tuple #[.func (.func 209) #[] #[],.bool true]) w:=
 h.look Tryz.underlying178 (string_keyed Tryz.underlying9) (keyOf_string_mk Tryz.underlying9 (by decide)) (v:=.func (.func 209) #[] #[]) true weighing_keys ⟨.func (.func 209) #[] #[],by simp[WL]⟩ (by simp[WL])
theorem weighing_4 {w:World} {b:Nat} (h:Mq w b WL):(Instr.lookup 178 (.map (some b)) (.string ⟨#[61]⟩) true).run Tryz.prog w=.ok (.tuple #[.func (.func 210) #[] #[],.bool true]) w:=
 h.look Tryz.underlying178 (string_keyed Tryz.underlying9) (keyOf_string_mk Tryz.underlying9 (by decide)) (v:=.func (.func 210) #[] #[]) true weighing_keys ⟨.func (.func 210) #[] #[],by simp[WL]⟩ (by simp[WL])
theorem weighing_5 {w:World} {b:Nat} (h:Mq w b WL):(Instr.lookup 178 (.map (some b)) (.string ⟨#[126]⟩) true).run Tryz.prog w=.ok (.tuple #[.func (.func 211) #[] #[],.bool true]) w:=
 h.look Tryz.underlying178 (string_keyed Tryz.underlying9) (keyOf_string_mk Tryz.underlying9 (by decide)) (v:=.func (.func 211) #[] #[]) true weighing_keys ⟨.func (.func 211) #[] #[],by simp[WL]⟩ (by simp[WL])
theorem weighing_no {w:World} {b:Nat} (h:Mq w b WL) {op:ByteArray} (ho:op.size≤maxLen) (h0:op≠⟨#[38]⟩) (h1:op≠⟨#[124]⟩) (h2:op≠⟨#[60]⟩) (h3:op≠⟨#[62]⟩) (h4:op≠⟨#[61]⟩) (h5:op≠⟨#[126]⟩):(Instr.lookup 178 (.map (some b)) (.string op) true).run Tryz.prog w=.ok (.tuple #[.nilFunc,.bool false]) w:=by
 refine h.miss Tryz.underlying178 (string_keyed Tryz.underlying9) (keyOf_string_mk Tryz.underlying9 ho) true (by kernel_rfl) weighing_keys ?_
 unfold WL
 simp only[List.forall_mem_cons]
 exact⟨fun e=>h0 (by injection e with e;exact e.symm),fun e=>h1 (by injection e with e;exact e.symm),fun e=>h2 (by injection e with e;exact e.symm),fun e=>h3 (by injection e with e;exact e.symm),fun e=>h4 (by injection e with e;exact e.symm),fun e=>h5 (by injection e with e;exact e.symm),fun _ h=>by cases h⟩
theorem turning_is (W:World):Calls Tryz.prog 175 #[] W fun e W'=>∃b,e=.returned (.map (some b))∧Mq W' b ML∧Below W.heap.size W W':=by
 have hmm:=@run_makeMap Tryz.prog
 have hT:=Mq.made W
 have hB:Below W.heap.size W (W.alloc (.map #[] 0)):=(Below.refl _ _).alloc (Nat.le_refl _) _
 go_enter Tryz.func175,Tryz.ntmps175
 go_wp2_with (first
  |(refine wpList_mput _ rfl _ _ _ 171 rfl 9 106 Tryz.underlying171 (string_keyed Tryz.underlying9) W.heap.size [] rfl hT (.string ⟨#[45]⟩) (.func (.func 195) #[] #[]) rfl rfl _ (keyOf_string_mk Tryz.underlying9 (by decide)) (fun _ h=>by cases h) (by simp) ?_;clear hT;intro w1 hT hg;replace hB:=mgrown hB hg (Nat.le_refl _) hB.size;clear hg)
  |(refine wpList_mput _ rfl _ _ _ 171 rfl 9 106 Tryz.underlying171 (string_keyed Tryz.underlying9) W.heap.size [(.string ⟨#[45]⟩,.func (.func 195) #[] #[])] rfl hT (.string ⟨#[126]⟩) (.func (.func 196) #[] #[]) rfl rfl _ (keyOf_string_mk Tryz.underlying9 (by decide)) (by simp only[List.forall_mem_cons];exact⟨⟨_,keyOf_string_mk Tryz.underlying9 (by decide)⟩,fun _ h=>by cases h⟩) (by simp) ?_;clear hT;intro w1 hT hg;replace hB:=mgrown hB hg (Nat.le_refl _) hB.size;clear hg)
  |(refine wpList_mput _ rfl _ _ _ 171 rfl 9 106 Tryz.underlying171 (string_keyed Tryz.underlying9) W.heap.size [(.string ⟨#[45]⟩,.func (.func 195) #[] #[]),(.string ⟨#[126]⟩,.func (.func 196) #[] #[])] rfl hT (.string ⟨#[42]⟩) (.func (.func 199) #[] #[]) rfl rfl _ (keyOf_string_mk Tryz.underlying9 (by decide)) (by simp only[List.forall_mem_cons];exact⟨⟨_,keyOf_string_mk Tryz.underlying9 (by decide)⟩,⟨_,keyOf_string_mk Tryz.underlying9 (by decide)⟩,fun _ h=>by cases h⟩) (by simp) ?_;clear hT;intro w1 hT hg;replace hB:=mgrown hB hg (Nat.le_refl _) hB.size;clear hg)
  |fail)
 go_ret
 exact⟨_,rfl,hT,hB⟩
theorem turning_keys:∀p∈ML,∃m,keyOf Tryz.prog 9 p.1=some m:=by
 unfold ML
 simp only[List.forall_mem_cons]
 exact⟨⟨_,keyOf_string_mk Tryz.underlying9 (by decide)⟩,⟨_,keyOf_string_mk Tryz.underlying9 (by decide)⟩,⟨_,keyOf_string_mk Tryz.underlying9 (by decide)⟩,fun _ h=>by cases h⟩
theorem turning_0 {w:World} {b:Nat} (h:Mq w b ML):(Instr.lookup 171 (.map (some b)) (.string ⟨#[45]⟩) true).run Tryz.prog w=.ok (.tuple #[.func (.func 195) #[] #[],.bool true]) w:=
 h.look Tryz.underlying171 (string_keyed Tryz.underlying9) (keyOf_string_mk Tryz.underlying9 (by decide)) (v:=.func (.func 195) #[] #[]) true turning_keys ⟨.func (.func 195) #[] #[],by simp[ML]⟩ (by simp[ML])
theorem turning_1 {w:World} {b:Nat} (h:Mq w b ML):(Instr.lookup 171 (.map (some b)) (.string ⟨#[126]⟩) true).run Tryz.prog w=.ok (.tuple #[.func (.func 196) #[] #[],.bool true]) w:=
 h.look Tryz.underlying171 (string_keyed Tryz.underlying9) (keyOf_string_mk Tryz.underlying9 (by decide)) (v:=.func (.func 196) #[] #[]) true turning_keys ⟨.func (.func 196) #[] #[],by simp[ML]⟩ (by simp[ML])
theorem turning_2 {w:World} {b:Nat} (h:Mq w b ML):(Instr.lookup 171 (.map (some b)) (.string ⟨#[42]⟩) true).run Tryz.prog w=.ok (.tuple #[.func (.func 199) #[] #[],.bool true]) w:=
 h.look Tryz.underlying171 (string_keyed Tryz.underlying9) (keyOf_string_mk Tryz.underlying9 (by decide)) (v:=.func (.func 199) #[] #[]) true turning_keys ⟨.func (.func 199) #[] #[],by simp[ML]⟩ (by simp[ML])
theorem turning_no {w:World} {b:Nat} (h:Mq w b ML) {op:ByteArray} (ho:op.size≤maxLen) (h0:op≠⟨#[45]⟩) (h1:op≠⟨#[126]⟩) (h2:op≠⟨#[42]⟩):(Instr.lookup 171 (.map (some b)) (.string op) true).run Tryz.prog w=.ok (.tuple #[.nilFunc,.bool false]) w:=by
 refine h.miss Tryz.underlying171 (string_keyed Tryz.underlying9) (keyOf_string_mk Tryz.underlying9 ho) true (by kernel_rfl) turning_keys ?_
 unfold ML
 simp only[List.forall_mem_cons]
 exact⟨fun e=>h0 (by injection e with e;exact e.symm),fun e=>h1 (by injection e with e;exact e.symm),fun e=>h2 (by injection e with e;exact e.symm),fun _ h=>by cases h⟩
end Go.Proofs.YtcfbjdplhgdpfaaGreatDoor

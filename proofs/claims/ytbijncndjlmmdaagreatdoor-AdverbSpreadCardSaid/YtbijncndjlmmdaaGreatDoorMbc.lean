import Derived.Test.YtbijncndjlmmdaaGreatDoorMba
import Derived.BigRegion
import Derived.Test.YtbijncndjlmmdaaGreatDoorMaz
set_option maxHeartbeats 6400000
set_option maxRecDepth 100000
namespace Go.Proofs.YtbijncndjlmmdaaGreatDoor
set_option linter.unusedVariables false
set_option linter.unusedSimpArgs false
open Go.RowKit
def rpL (N k:Nat) (x:Int):List Value:=List.replicate k (Value.int .i64 x)++List.replicate (N-k) (Value.int .i64 0)
def Rp (w:World) (g N k:Nat) (x:Int):Prop:=w.heap[g]?=some (.cells (rpL N k x).toArray 3 (0,0))
theorem rpL_len {N k:Nat} {x:Int} (h:k≤N):(rpL N k x).length=N:=by simp[rpL];omega
theorem Rp.made (w:World) (N:Nat) (x:Int):Rp (w.alloc (.cells (madeCells #[.int .i64 0] N) 3)) w.heap.size N 0 x:=by
 obtain⟨c,hg,hs,hc⟩:=Ir.made w N
 unfold Rp
 rw[hg]
 have e:c=(rpL N 0 x).toArray:=by
  apply Array.ext
  · simp[rpL,hs]
  · intro i h1 h2
    have:=hc i (by omega)
    rw[Array.getElem?_eq_getElem h1]at this
    injection this with this
    rw[this]
    simp[rpL]
 rw[e]
theorem rp_splice {N k m:Nat} {x:Int} (h:k+m≤N):splice (rpL N k x) k (List.replicate m (Value.int .i64 x))=rpL N (k+m) x:=by
 unfold splice rpL
 rw[List.take_left' (by simp),List.length_replicate,List.drop_append,List.drop_eq_nil_of_le (by simp),List.nil_append,List.drop_replicate,List.length_replicate,show k+m-k=m by omega,←List.append_assoc,List.replicate_append_replicate,show N-k-m=N-(k+m)by omega]
theorem Rp.own {w:World} {g N:Nat} {x:Int} (h:Rp w g N N x) {B:Nat} (hB:B≤g) (hN:N≤100000):w.ownsRow B 3 1 (.slice (some ⟨g,0,none⟩) N N) N (valsI (List.replicate N x)):=by
 refine⟨by simp[valsI],.inr ⟨g,N,_,rfl,hB,h,Nat.le_refl _,by unfold maxLen;omega,by simp[rpL],?_⟩⟩
 simp[rpL,valsI]
theorem Rp.at {w:World} {g N k:Nat} {x:Int} (h:Rp w g N k x) {j:Nat} (hj:j<k):w.cell? ⟨g,j,none⟩=some (.int .i64 x):=by
 rw[cell_of_row _ _ _ _ _ _ h]
 simp[rpL,List.getElem?_append,hj]
theorem infoIntS:(Tryz.prog.info? 3).map (·.size)=some 1:=by kernel_rfl
def RpEnd (n:Nat) (x:Int) (W:World) (e:Ending) (w':World):Prop:=∃a c,e=.returned (.slice a n c)∧w'.ownsRow W.heap.size 3 1 (.slice a n c) n (valsI (List.replicate n x))∧Below W.heap.size W w'
theorem rp_one (x:Int) {m:Nat}:∀v∈List.replicate m (Value.int .i64 x),v.oneCell'=true:=fun v hv=>by rw[(List.mem_replicate.1 hv).2];rfl
theorem rp_get {m j:Nat} {x:Int} {v:Value} (h:(List.replicate m (Value.int .i64 x))[j]?=some v):j<m∧v=.int .i64 x:=by
 rw[List.getElem?_replicate]at h
 split at h
 · rename_i hj
   injection h with h
   exact⟨hj,h.symm⟩
 · cases h
theorem run_from {T e:TypeId} (ht:Tryz.prog.underlying T=some (.slice e)) (hs:∀w,(Go.sizeOf e).run Tryz.prog w=.ok 1 w) (a:Option Addr) (n c f:Nat) (h1:f≤n) (h2:n≤c) (w:World):
 (Instr.slice T (.slice a n c) (some (.int .i64 (f:Int))) none none).run Tryz.prog w=.ok (.slice (cutA a f c) (n-f) (c-f)) w:=by
 simp[Instr.slice,Instr.sliceBounds,Instr.sliceBound,run_underlying ht,hs,asIntOf,h1,h2,cutA]
theorem run_upto {T e:TypeId} (ht:Tryz.prog.underlying T=some (.slice e)) (hs:∀w,(Go.sizeOf e).run Tryz.prog w=.ok 1 w) (a:Option Addr) (n c t:Nat) (h1:t≤c) (h0:0<c) (w:World):
 (Instr.slice T (.slice a n c) none (some (.int .i64 (t:Int))) none).run Tryz.prog w=.ok (.slice (cutA a 0 c) t c) w:=by
 have h3:¬c=0:=by omega
 simp[Instr.slice,Instr.sliceBounds,Instr.sliceBound,run_underlying ht,hs,asIntOf,h1,cutA,h3]
theorem cut_at {g f c:Nat} (h:c≠f):cutA (some ⟨g,0,none⟩) f c=some ⟨g,f,none⟩:=by
 unfold cutA
 rw[if_neg h]
 show some ((⟨g,0,none⟩:Addr).add f)=_
 rw[show(⟨g,0,none⟩:Addr).add f=⟨g,0+f,none⟩by unfold Addr.add;split<;>simp_all,Nat.zero_add]
theorem rp_copy {wr:World} {g n k m:Nat} {x:Int} (h:Rp wr g n k x) (hm:m=Nat.min k (n-k)) (hk:k≤n):
 (Builtin.copy_ #[22,22] 3 #[.slice (some ⟨g,k,none⟩) (n-k) (n-k),.slice (some ⟨g,0,none⟩) k n]).run Tryz.prog wr=.ok (.int .i64 (m:Int)) (wr.setRow g (rpL n (k+m) x).toArray):=by
 have hm1:m≤k:=by rw[hm];exact Nat.min_le_left _ _
 have hm2:m≤n-k:=by rw[hm];exact Nat.min_le_right _ _
 have e:=run_copy_row (P:=Tryz.prog) wr 22 22 3 3 g k (n-k) (n-k) ⟨g,0,none⟩ k n (rpL n k x).toArray 3 (List.replicate m (.int .i64 x)) Tryz.underlying22 infoIntS h (by rw[List.length_replicate];exact hm) (fun j v hj=>by
  obtain⟨hj1,rfl⟩:=rp_get hj
  have:=h.at (j:=j) (by omega)
  rw[show(⟨g,0,none⟩:Addr).add j=⟨g,0+j,none⟩by unfold Addr.add;split<;>simp_all,Nat.zero_add]
  exact this) (by rw[List.length_replicate,List.size_toArray,rpL_len hk];omega) (rp_one x)
 have hs:=rp_splice (N:=n) (k:=k) (m:=m) (x:=x) (by omega)
 unfold splice at hs
 rw[List.length_replicate,←List.append_assoc]at hs
 rw[e,List.length_replicate]
 show Result.ok (Value.int .i64 (m:Int)) (wr.setRow g ((rpL n k x).take k++List.replicate m (Value.int .i64 x)++(rpL n k x).drop (k+m)).toArray)=_
 rw[hs]
theorem Repeat_is {W:World} {a:Option Addr} {c:Nat} {x:Int} (n:Nat) (h:Sl W a 1 [x]) (hn:n≤5000):Calls Tryz.prog 161 #[.slice a 1 c,.int .i64 (n:Int)] W (RpEnd n x W):=by
 have KM:=Lib.hid (fun w=>Tryz.bits_Mul 1 n (by decide) (by omega) w)
 rw[Nat.one_mul,Nat.div_eq_of_lt (show n<18446744073709551616 by omega),Nat.mod_eq_of_lt (show n<18446744073709551616 by omega)]at KM
 have hmk:=run_mki n (by omega)
 obtain⟨bb,off,rfl,hc⟩:=h.2 (by omega)
 have hcx:W.cell? ⟨bb,off,none⟩=some (.int .i64 x):=hc 0 (by omega)
 have HCX:=Lib.hid hcx
 have w1:IntKind.u64.wrap (n:Int)=(n:Int):=by rw[IntKind.wrap_u64];omega
 have w2:IntKind.i64.wrap (n:Int)=(n:Int):=IntWalk.i64_in _ (by omega)
 have w3:IntKind.u64.wrap (1:Int)=1:=by decide
 have hnm:(n:Int)≤9223372036854775807:=by omega
 have hnm2:¬((9223372036854775807:Int)<(n:Int)):=by omega
 clear h hc hcx
 go_enter Tryz.func161,Tryz.ntmps161
 go_wp2_with fail
 refine(KM.out _).mono ?_
 rintro e w ⟨rfl,rfl⟩
 have HR0:=Lib.hid (Rp.made w n x)
 have hb0:Below w.heap.size w (w.alloc (.cells (madeCells #[.int .i64 0] n) 3)):=(Below.refl _ _).alloc (Nat.le_refl _) _
 have HB0:=Lib.hid hb0
 clear hb0 KM
 obtain⟨M,hM⟩:∃M,M=Nat.min 1 n:=⟨_,rfl⟩
 have hM1:M≤1:=by rw[hM];exact Nat.min_le_left _ _
 have hMn:M≤n:=by rw[hM];exact Nat.min_le_right _ _
 have hMz:n≠0→M=1:=fun h=>by rw[hM];exact Nat.min_eq_left (by omega)
 have HM:=Lib.hid hM
 clear hM
 go_wp2_with (refine wpList_copy_splice rfl (.tmp 31) (.tmp 32) _ _ rfl 3 Tryz.underlying22 infoIntS _ _ _ _ _ _ rfl rfl w.heap.size 0 (rpL n 0 x) 3 HR0.out (List.replicate M (.int .i64 x)) (by rw[List.length_replicate];exact HM.out) (fun h0=>⟨rfl,_,rfl,fun j v hj=>by
  obtain⟨hj1,rfl⟩:=rp_get hj
  obtain rfl:j=0:=by omega
  exact(HB0.out.cell (p:=⟨bb,off,none⟩) (World.block_lt_of_cell? w _ HCX.out)).trans HCX.out⟩) (by rw[List.length_replicate,rpL_len (Nat.zero_le _)];omega) (rp_one x) w.heap.size w HB0.out (Nat.le_refl _) ?_;intro wo HG hbo)
 have HG2:Hid (Rp wo w.heap.size n M x):=Lib.hid (by
  have:=HG.out
  rw[rp_splice (by omega),Nat.zero_add]at this
  exact this)
 clear HG HR0 HB0
 go_wp2_with fail
 go_loopw [8] (fun kv wr=>∃k:Nat,kv=.int .i64 (k:Int)∧M≤k∧k≤n∧Hid (Rp wr w.heap.size n k x)∧Below w.heap.size w wr) (fun kv _=>n-(intOf kv).toNat)
 case atStart=>exact⟨M,rfl,Nat.le_refl _,hMn,HG2,hbo⟩
 case round=>
  obtain⟨k,rfl,hMk,hk,HR,hb⟩:=hrel
  by_cases hlt:k<n
  · have e3:(k:Int)<(n:Int):=by omega
    have hk0:0<k:=by have:=hMz (by omega);omega
    obtain⟨m,hm⟩:∃m,m=Nat.min k (n-k):=⟨_,rfl⟩
    have hm1:m≤k:=by rw[hm];exact Nat.min_le_left _ _
    have hm2:m≤n-k:=by rw[hm];exact Nat.min_le_right _ _
    have hm3:0<m:=by rw[hm];exact Nat.lt_min.2 ⟨hk0,by omega⟩
    have HMM:=Lib.hid hm
    have hr1:=run_from Tryz.underlying22 sizeInt (some ⟨w.heap.size,0,none⟩) n n k (by omega) (Nat.le_refl _)
    have hr2:=run_upto Tryz.underlying22 sizeInt (some ⟨w.heap.size,0,none⟩) n n k (by omega) (by omega)
    rw[cut_at (by omega)]at hr1 hr2
    have hw:IntKind.i64.wrap ((k:Int)+(m:Int))=((k+m:Nat):Int):=by rw[←Int.natCast_add];exact IntWalk.i64_in _ (by omega)
    have hc1:=rp_copy HR.out hm hk
    have hc2:=rp_copy (wr:=wr.drew) HR.out hm hk
    obtain⟨w4,hw4⟩:∃z,z=wr.setRow w.heap.size (rpL n (k+m) x).toArray:=⟨_,rfl⟩
    rw[show wr.drew.setRow w.heap.size (rpL n (k+m) x).toArray=(wr.setRow w.heap.size (rpL n (k+m) x).toArray).drew from rfl]at hc2
    rw[←hw4]at hc1 hc2
    have HG4:Hid (Rp w4 w.heap.size n (k+m) x):=Lib.hid (by rw[hw4];exact setRow_heap _ _ _ _ _ _ HR.out)
    have HB4:Hid (Below w.heap.size w w4):=Lib.hid (by rw[hw4];exact below_setRow hb (Nat.le_refl _) _)
    have hcp1:=hc1
    have hcp2:=hc2
    clear hc1 hc2 hw4 hm hb hMz HM HG2 hbo hmk
    go_wp2_with fail
    go_region
    all_goals
     clear hcp1 hcp2
     go_wp2_with fail
     go_roundw
     case rel=>exact⟨k+m,rfl,by omega,by omega,HG4,(by first|exact HB4.out|exact HB4.out.drew)⟩
     case measure=>simp[intOf];omega
  · have e3:¬(k:Int)<(n:Int):=by omega
    obtain rfl:k=n:=by omega
    have HOW:=Lib.hid (HR.out.own (Nat.le_refl _) (by omega))
    clear HR
    go_wp2_with fail
    go_ret
    exact⟨_,_,rfl,HOW.out,hb⟩
theorem swh_no {a1 b1:Option Addr} {n1 c1 m1 d1:Nat} {l:List Int} {es:List ByteArray} {W:World} {o:Option Ar} (h1:Av W a1 n1 c1 b1 m1 d1 l es o) (hv:vcE o≠0):
 Calls Tryz.prog 117 #[.agg #[.slice a1 n1 c1,.slice b1 m1 d1]] W (MEnd (none,vcE o) W):=by
 have KC:=Lib.hid (fun w (hb:Below W.heap.size W w)=>SVec_is (h1.below hb))
 generalize vcE o=k at*
 have hk:(k != 0)=true:=by simpa using hv
 clear h1 hv
 have h:=live1 W a1 n1 c1 b1 m1 d1
 go_enter Tryz.func117,Tryz.ntmps117
 have x1:=h.out.2.1.c0
 have y1:=h.out.2.1.c1
 go_wp2_with fail
 with_reducible refine(live h (KC.out _ h.out.2.2)).mono ?_
 clear h x1 y1
 rintro e w ⟨rfl,h⟩
 have y0:=h.out.1.c0
 have y3:=h.out.1.c1
 have f0:=h.out.1.f 0
 have f1:=h.out.1.f 1
 go_wp2_with fail
 have hR:=h.out.1.set none 0 0 none 0 0
 have r0:=hR.c0
 have r1:=hR.c1
 exact bodyPost_ret (v:=.tuple #[.agg #[.slice none 0 0,.slice none 0 0],.int .i64 k]) (by simp[results,Tryz.results117,go_sem,r0,r1]) rfl (mend_no h.out.1 h.out.2.2 (by omega))
theorem swh_far {a1 b1:Option Addr} {n1 c1 m1 d1:Nat} {l:List Int} {es:List ByteArray} {W:World} {q:Ar} (h1:Av W a1 n1 c1 b1 m1 d1 l es (some q)) (hW:WT W) (hv:vcE (some q)=0) (hal:q.2.all nearM=false):
 Calls Tryz.prog 117 #[.agg #[.slice a1 n1 c1,.slice b1 m1 d1]] W (MEnd (none,5) W):=by
 have KC:=Lib.hid (fun w (hb:Below W.heap.size W w)=>SVec_is (h1.below hb))
 have KA:=Lib.hid (fun w (hb:Below W.heap.size W w)=>All_av (c:=c1) (d:=d1) (s:=l) w (by have:=h1.v;rw[h1.i.2.1]at this;exact this.below hb) h1.i.2.2.2 (by have:=h1.mlen.2.2;omega) (hW.below hb))
 rw[hv]at KC
 have hal2:=Lib.hid hal
 clear h1 hW hv hal
 have h:=live1 W a1 n1 c1 b1 m1 d1
 go_enter Tryz.func117,Tryz.ntmps117
 have x1:=h.out.2.1.c0
 have y1:=h.out.2.1.c1
 go_wp2_with fail
 with_reducible refine(live h (KC.out _ h.out.2.2)).mono ?_
 clear h x1 y1
 rintro e w ⟨rfl,h⟩
 have x1:=h.out.2.1.c0
 have y1:=h.out.2.1.c1
 go_wp2_with fail
 refine(live_al h (KA.out _ h.out.2.2)).mono ?_
 clear h x1 y1
 rintro e w ⟨aa,na,ca,z,rfl,hz,h⟩
 have hz5:z=5:=by
  rcases hz with⟨g,_⟩|⟨_,g⟩
  · rw[hal2.out]at g;cases g
  · exact g
 subst hz5
 clear hz
 have y0:=h.out.1.c0
 have y3:=h.out.1.c1
 have f0:=h.out.1.f 0
 have f1:=h.out.1.f 1
 go_wp2_with fail
 have hR:=h.out.1.set none 0 0 none 0 0
 have r0:=hR.c0
 have r1:=hR.c1
 exact bodyPost_ret (v:=.tuple #[.agg #[.slice none 0 0,.slice none 0 0],.int .i64 5]) (by simp[results,Tryz.results117,go_sem,r0,r1]) rfl (mend_no h.out.1 h.out.2.2 (by omega))
theorem natL_all (l:List Int) (h:∀j,j<l.length→l.getD j 0≤1099511627776) (k:Nat):(natL (l.take k)).sum≤k*1099511627776:=by
 induction k with
 |zero=>simp[natL]
 |succ k ih=>
  rcases Nat.lt_or_ge k l.length with hk|hk
  · have e:natL (l.take (k+1))=natL (l.take k)++[(l.getD k 0).toNat]:=by
     rw[takeI_snoc hk];simp[natL]
    rw[e,List.sum_append]
    have h3:=h k hk
    obtain⟨z,hz⟩:∃z,z=(l.getD k 0).toNat:=⟨_,rfl⟩
    have h4:z≤1099511627776:=by omega
    rw[←hz,show[z].sum=z by simp,Nat.succ_mul]
    exact Nat.add_le_add ih h4
  · rw[List.take_of_length_le (by omega)]
    rw[List.take_of_length_le hk]at ih
    rw[Nat.succ_mul];exact Nat.le_trans ih (Nat.le_add_right _ _)
theorem swh_yes {a1 b1:Option Addr} {n1 c1 m1 d1:Nat} {l:List Int} {es:List ByteArray} {W:World} {q:Ar} (h1:Av W a1 n1 c1 b1 m1 d1 l es (some q)) (hW:WT W) (hv:vcE (some q)=0) (hlq:q.1.length=1) (hal:q.2.all nearM=true):
 Calls Tryz.prog 117 #[.agg #[.slice a1 n1 c1,.slice b1 m1 d1]] W (MEnd (whK (some q)) W):=by
 have KC:=Lib.hid (fun w (hb:Below W.heap.size W w)=>SVec_is (h1.below hb))
 have KA:=Lib.hid (fun w (hb:Below W.heap.size W w)=>All_av (c:=c1) (d:=d1) (s:=l) w (by have:=h1.v;rw[h1.i.2.1]at this;exact this.below hb) h1.i.2.2.2 (by have:=h1.mlen.2.2;omega) (hW.below hb))
 rw[hv]at KC
 have hm4:=h1.mlen.2.2
 have hml:=h1.mlen.1
 have KW:=Lib.hid (fun w (hb:Below W.heap.size W w)=>hW.below hb)
 obtain⟨L,hL⟩:∃L,L=q.2:=⟨_,rfl⟩
 obtain⟨R,hR⟩:∃R,R=whK (some q):=⟨_,rfl⟩
 rw[wh_yes hlq hal,←hL]at hR
 rw[←hL]at KA hal hml
 rw[show whK (some q)=R by rw[hR,wh_yes hlq (by rw[←hL];exact hal),←hL]]
 have HX:=Lib.hid (fun j (hj:j<m1)=>nearM_yes.1 (near_all.1 hal j (by omega)))
 have HSUM:=Lib.hid (natL_all L (fun j hj=>(nearM_yes.1 (near_all.1 hal j hj)).2))
 have hal2:=Lib.hid hal
 have HL:=Lib.hid hml.symm
 have F5:=Lib.hid (fun j (hj:j<m1) (h0:L.getD j 0<0)=>(show R=(none,5)from hR.trans (if_pos ⟨L.getD j 0,by rw[List.getD_eq_getElem?_getD,List.getElem?_eq_getElem (by omega)];exact List.getElem_mem _,h0⟩)))
 have F0:=fun(h0:∀j,j<m1→0≤L.getD j 0)=>(show¬∃x∈L,x<0 from by
  rintro⟨x,hx,h⟩
  obtain⟨j,hj,rfl⟩:=List.getElem_of_mem hx
  have:=h0 j (by omega)
  rw[List.getD_eq_getElem?_getD,List.getElem?_eq_getElem hj,Option.getD_some]at this
  omega)
 have F8:=Lib.hid (fun h0 (hs:4096<(natL L).sum)=>(show R=(none,8)from hR.trans (by rw[if_neg (F0 h0),if_pos hs])))
 have FY:=Lib.hid (fun h0 (hs:(natL L).sum≤4096)=>(show R=(some ([((natL L).sum:Int)],intL (whS 0 (natL L))),0)from hR.trans (by rw[if_neg (F0 h0),if_neg (by omega)])))
 have KI:=Lib.hid (fun w a c (hs:Sl w a (natL L).sum (intL (whS 0 (natL L)))) (h4:(natL L).sum≤4096) (ht:WT w)=>Ints_pt a (natL L).sum c (intL (whS 0 (natL L))) w hs (fun j _=>whS_I64 (by rw[natL_len];omega)) (by omega) ht)
 clear h1 hv hlq hal hml hR hL F0 hW
 have h:=live1 W a1 n1 c1 b1 m1 d1
 go_enter Tryz.func117,Tryz.ntmps117
 have x1:=h.out.2.1.c0
 have y1:=h.out.2.1.c1
 go_wp2_with fail
 with_reducible refine(live h (KC.out _ h.out.2.2)).mono ?_
 clear h x1 y1
 rintro e w ⟨rfl,h⟩
 have x1:=h.out.2.1.c0
 have y1:=h.out.2.1.c1
 go_wp2_with fail
 refine(live_al h (KA.out _ h.out.2.2)).mono ?_
 clear h x1 y1
 rintro e w ⟨aa,na,ca,z,rfl,hz,h⟩
 obtain⟨rfl,hna,hS⟩:z=0∧na=m1∧Sl w aa na L:=by
  rcases hz with⟨_,g1,g2,g3,_⟩|⟨g,_⟩
  · exact⟨g1,g2.trans HL.out,g3⟩
  · rw[hal2.out]at g;cases g
 subst hna
 have HS:=Lib.hid hS
 clear hz hS KC KA
 go_wp2_with fail
 go_loop [7,30] (fun tv iv=>∃k s:Nat,tv=.int .i64 (s:Int)∧iv=.int .i64 (k:Int)∧k≤na∧Hid (s=(natL (L.take k)).sum)∧Hid (∀j,j<k→0≤L.getD j 0)) (fun _ iv=>na-(intOf iv).toNat)
 case atStart=>exact⟨0,0,rfl,rfl,Nat.zero_le _,Lib.hid rfl,Lib.hid fun j hj=>by omega⟩
 case round=>
  obtain⟨k,s,rfl,rfl,hk,HSS,HN⟩:=hrel
  by_cases hlt:k<na
  · have e2:(k:Int)<(na:Int):=by omega
    obtain⟨bb,off,rfl,hc⟩:=HS.out.2 (by omega)
    have hck:=hc k hlt
    have hg:=F5.out k hlt
    have hsb:=HSUM.out k
    have hxb:=HX.out k hlt
    obtain⟨x,hx⟩:∃x,x=L.getD k 0:=⟨_,rfl⟩
    rw[←hx]at hck hg hxb
    rw[←HSS.out]at hsb
    have HXX:=Lib.hid hx
    clear hc hx
    by_cases h0:x<0
    · have HG:=Lib.hid (hg h0)
      clear hg
      have y0:=h.out.1.c0
      have y3:=h.out.1.c1
      have f0:=h.out.1.f 0
      have f1:=h.out.1.f 1
      go_wp2_with fail
      have hR:=h.out.1.set none 0 0 none 0 0
      have r0:=hR.c0
      have r1:=hR.c1
      exact bodyPost_ret (v:=.tuple #[.agg #[.slice none 0 0,.slice none 0 0],.int .i64 5]) (by simp[results,Tryz.results117,go_sem,r0,r1]) rfl (by rw[HG.out];exact mend_no h.out.1 h.out.2.2 (by omega))
    · obtain⟨y,hy⟩:∃y:Nat,x=(y:Int):=⟨x.toNat,by omega⟩
      have hs2:=Lib.hid (show s+y=(natL (L.take (k+1))).sum from by
       rw[natL_snoc (l:=L) (k:=k) (by rw[HL.out];exact hlt) (HXX.out.symm.trans hy),List.sum_append,←HSS.out];simp)
      have hw:IntKind.i64.wrap ((s:Int)+x)=((s+y:Nat):Int):=by rw[hy,←Int.natCast_add];exact IntWalk.i64_in _ (by omega)
      clear hg hsb hxb hy
      go_wp2_with fail
      go_round
      case rel=>exact⟨k+1,s+y,rfl,by go_num,by omega,hs2,Lib.hid fun j hj=>by
       by_cases e:j=k
       · rw[e,←HXX.out];omega
       · exact HN.out j (by omega)⟩
      case measure=>simp[intOf];omega
  · have e2:¬(k:Int)<(na:Int):=by omega
    obtain rfl:k=na:=by omega
    have F8':=Lib.hid (F8.out HN.out)
    have FY':=Lib.hid (FY.out HN.out)
    have hsn:s=(natL L).sum:=by have:=HSS.out;rwa [List.take_of_length_le (by rw[HL.out];exact Nat.le_refl _)]at this
    have HSN:=Lib.hid hsn
    clear F5 F8 FY hlt hk hsn HSS
    by_cases hbig:4096<s
    · have HG:=Lib.hid (F8'.out (by rw[←HSN.out];exact hbig))
      have e4:(4096:Int)<(s:Int):=by omega
      have y0:=h.out.1.c0
      have y3:=h.out.1.c1
      have f0:=h.out.1.f 0
      have f1:=h.out.1.f 1
      go_wp2_with fail
      have hR:=h.out.1.set none 0 0 none 0 0
      have r0:=hR.c0
      have r1:=hR.c1
      exact bodyPost_ret (v:=.tuple #[.agg #[.slice none 0 0,.slice none 0 0],.int .i64 8]) (by simp[results,Tryz.results117,go_sem,r0,r1]) rfl (by rw[HG.out];exact mend_no h.out.1 h.out.2.2 (by omega))
    · have e4:¬(4096:Int)<(s:Int):=by omega
      have HS4:=Lib.hid (show(natL L).sum≤4096 by rw[←HSN.out];omega)
      obtain⟨B,hB⟩:∃B,B=w.heap.size:=⟨_,rfl⟩
      go_wp2_with fail
      go_loopw [10,46] (fun ov iv wr=>∃(i t:Nat) (av:Option Addr) (cv:Nat),ov=.slice av t cv∧iv=.int .i64 (i:Int)∧i≤k∧t≤4096∧Hid (t=(natL (L.take i)).sum)∧wr.ownsRow B 3 1 (.slice av t cv) t (valsI (intL (whS 0 (natL (L.take i)))))∧Below B w wr) (fun _ iv _=>k-(intOf iv).toNat)
      case atStart=>exact⟨0,0,none,0,rfl,rfl,Nat.zero_le _,Nat.zero_le _,Lib.hid rfl,World.ownsRow_nil _ _ _ _,by rw[hB];exact Below.refl _ _⟩
      case round=>
       obtain⟨i,t,av,cv,rfl,rfl,hi,ht4,HTT,ho,hb⟩:=hrel
       by_cases hil:i<k
       · have e3:(i:Int)<(k:Int):=by omega
         obtain⟨bb,off,rfl,hc⟩:=HS.out.2 (by omega)
         have hck:=(hb.cell (p:=⟨bb,off+i,none⟩) (by rw[hB];exact World.block_lt_of_cell? w _ (hc i hil))).trans (hc i hil)
         obtain⟨x,hx⟩:∃x:Nat,L.getD i 0=(x:Int):=⟨(L.getD i 0).toNat,by have:=HN.out i hil;omega⟩
         have hsn:=natL_snoc (l:=L) (k:=i) (by rw[HL.out];exact hil) hx
         have hsum:(natL (L.take (i+1))).sum=t+x:=by rw[hsn,List.sum_append,HTT.out];simp
         have hw0:=Lib.hid (show whS 0 (natL (L.take (i+1)))=whS 0 (natL (L.take i))++List.replicate x i from by rw[hsn,wh_snoc,natL_len,List.length_take,HL.out,show 0+min i k=i by omega])
         have hle:=natL_take L (i+1)
         rw[hsum]at hle
         have hx4:t+x≤4096:=by have:=HS4.out;omega
         rw[hx]at hck
         have HSU:=Lib.hid hsum
         have hbz:B≤wr.heap.size:=by have:=hb.size;rw[hB];exact this
         have hb1:Below wr.heap.size wr (wr.alloc (.cells #[.int .i64 (i:Int)] 3)):=(Below.refl _ _).alloc (Nat.le_refl _) _
         have KR:=Lib.hid (Repeat_is (c:=1) x (own_sl (l:=[(i:Int)]) (own_new1 wr (i:Int))) (by omega))
         have HO:=Lib.hid (own_below ho hb1)
         have HB2:=Lib.hid (hb.trans (hb1.mono hbz))
         clear hc hx hsn hsum ho hb hb1 hle
         generalize whS 0 (natL (L.take i))=LI at*
         go_wp2_with fail
         refine KR.out.mono ?_
         rintro e w5 ⟨ra,rc,rfl,hro,hb5⟩
         have hz5:B≤(wr.alloc (.cells #[.int .i64 (i:Int)] 3)).heap.size:=by simp;omega
         have ho5:=Lib.hid (own_below HO.out hb5)
         have hr5:=Lib.hid (own_rd hro)
         have hb6:=HB2.out.trans (hb5.mono hz5)
         have hz6:B≤w5.heap.size:=Nat.le_trans hz5 hb5.size
         clear hro hb5 KR HO HB2 hck
         go_wp2_with (at_builtin;refine wpList_append_rd rfl (.tmp 51) (.tmp 55) 22 rfl B 3 (.int .i64 0) 8 Tryz.underlying22 infoInt1 rfl (by decide) _ t _ rfl ho5.out ra x rc (valsI (List.replicate x (i:Int))) rfl hr5.out (valsI_one _) (by omega) hz6 ?_;intro av' cv' w3 hown3 hg3)
         have hb7:Below B w w3:=hb6.trans (grown_below' hg3 (fun g' hg'=>(ho5.out.lt g' hg').1) hz6)
         rw[show valsI (intL LI)++valsI (List.replicate x (i:Int))=valsI (intL (LI++List.replicate x i))by simp[valsI,intL],←hw0.out]at hown3
         clear hg3 ho5 hr5 hb6
         go_wp2_with fail
         go_roundw
         case rel=>exact⟨i+1,t+x,av',cv',rfl,by go_num,by omega,by omega,Lib.hid HSU.out.symm,hown3,hb7⟩
         case measure=>simp[intOf];omega
       · have e3:¬(i:Int)<(k:Int):=by omega
         obtain rfl:i=k:=by omega
         have e5:L.take i=L:=List.take_of_length_le (by rw[HL.out];exact Nat.le_refl _)
         rw[e5]at HTT ho
         have hs:=HTT.out
         subst hs
         have hsl:=Lib.hid (own_sl ho)
         have HRR:=Lib.hid (FY'.out HS4.out)
         have HRK:=Lib.hid (wh_rok HS4.out (by rw[natL_len,HL.out];exact hm4))
         replace h:=live_belS h hb (by rw[hB];exact Nat.le_refl _)
         have KI2:=Lib.hid (KI.out _ av cv hsl.out HS4.out (KW.out _ h.out.2.2))
         clear ho hb KI
         have y0:=h.out.1.c0
         have y3:=h.out.1.c1
         have f0:=h.out.1.f 0
         have f1:=h.out.1.f 1
         go_wp2_with fail
         with_reducible refine(live_pt h KI2.out).mono ?_
         clear h y0 y3 f0 f1
         rintro e w ⟨ar,nr,cr,br,mr,dr,rfl,h,hv,hc⟩
         have y0:=h.out.1.c0
         have y3:=h.out.1.c1
         have f0:=h.out.1.f 0
         have f1:=h.out.1.f 1
         go_wp2_with fail
         have hR:=h.out.1.set ar nr cr br mr dr
         have r0:=hR.c0
         have r1:=hR.c1
         exact bodyPost_ret (v:=.tuple #[.agg #[.slice ar nr cr,.slice br mr dr],.int .i64 0]) (by simp[results,Tryz.results117,go_sem,r0,r1]) rfl (by
          rw[HRR.out]
          exact mend_box (r:=(some ([((natL L).sum:Int)],intL (whS 0 (natL L))),0)) h.out.1 h.out.2.2 (by omega) hv hc HRK.out)
theorem SWhere_is {a1 b1:Option Addr} {n1 c1 m1 d1:Nat} {l:List Int} {es:List ByteArray} {W:World} {o:Option Ar} (h1:Av W a1 n1 c1 b1 m1 d1 l es o) (hW:WT W):Calls Tryz.prog 117 #[.agg #[.slice a1 n1 c1,.slice b1 m1 d1]] W (MEnd (whK o) W):=by
 by_cases hv:vcE o=0
 · obtain⟨q,rfl,hl⟩:=vc_yes hv
   rcases Bool.eq_false_or_eq_true (q.2.all nearM)with ha|ha
   · exact swh_yes h1 hW hv hl ha
   · rw[wh_far hl ha];exact swh_far h1 hW hv ha
 · rw[wh_no hv];exact swh_no h1 hv
end Go.Proofs.YtbijncndjlmmdaaGreatDoor
namespace Go.Proofs.YtbijncndjlmmdaaGreatDoor
set_option linter.unusedVariables false
set_option linter.unusedSimpArgs false
open Go.RowKit
theorem its_snoc (es:List ByteArray) (K:Nat) {L:List Nat} {j:Nat} (hj:j<L.length):its es K (L.take (j+1))=its es K (L.take j)++part es K (L.getD j 0):=by
 have e:L.take (j+1)=L.take j++[L.getD j 0]:=by rw[List.take_add_one,List.getD_eq_getElem?_getD,List.getElem?_eq_getElem hj];rfl
 rw[e,its_append]
 show _++((es.drop (L.getD j 0*K)).take K++its es K [])=_
 rw[show its es K []=([]:List ByteArray)from rfl,List.append_nil]
 rfl
end Go.Proofs.YtbijncndjlmmdaaGreatDoor
namespace Go.Proofs.YtbijncndjlmmdaaGreatDoor
set_option linter.unusedVariables false
set_option linter.unusedSimpArgs false
open Go.RowKit
theorem ix_1 (p:Option Ar):ixK none p=(none,1):=by cases p<;>rfl
theorem ix_2 (q:Ar):ixK (some q) none=(none,1):=rfl
theorem ix_3 {q:Ar} (r:Ar) (h:q.1=[]):ixK (some q) (some r)=(none,3):=by
 unfold ixK;dsimp only;rw[if_pos h]
theorem ix_4 {q r:Ar} (h:q.1≠[]) (hp:plE r (q.1.getD 0 0)≠0):ixK (some q) (some r)=(none,plE r (q.1.getD 0 0)):=by
 unfold ixK;dsimp only;rw[if_neg h,if_pos hp]
theorem ix_5 {q r:Ar} (h:q.1≠[]) (hp:plE r (q.1.getD 0 0)=0) (hz:szE (r.1++q.1.tail)≠0):ixK (some q) (some r)=(none,szE (r.1++q.1.tail)):=by
 unfold ixK;dsimp only;rw[if_neg h,if_neg (fun e=>e hp),if_pos hz]
theorem ix_6 {q r:Ar} (h:q.1≠[]) (hp:plE r (q.1.getD 0 0)=0) (hz:szE (r.1++q.1.tail)=0):ixK (some q) (some r)=(some (r.1++q.1.tail,its q.2 (kI q.1) (natL r.2)),0):=by
 unfold ixK;dsimp only;rw[if_neg h,if_neg (fun e=>e hp),if_neg (fun e=>e hz)]
end Go.Proofs.YtbijncndjlmmdaaGreatDoor

import Derived.Test.YtbijncndjlmmdaaGreatDoorMaz
import Derived.Test.YtbijncndjlmmdaaGreatDoorMba
set_option maxHeartbeats 6400000
set_option maxRecDepth 100000
namespace Go.Proofs.YtbijncndjlmmdaaGreatDoor
set_option linter.unusedVariables false
set_option linter.unusedSimpArgs false
open Go.RowKit
theorem Hpn.zero (f:Nat→Int) (a:Nat→Nat):Hpn f a 0:=⟨fun m h=>by omega,fun i j h=>by omega,fun v=>⟨fun⟨k,hk,_⟩=>by omega,fun h=>by omega⟩⟩
theorem Hpn.out {f:Nat→Int} {a:Nat→Nat} {n:Nat} (h:Hpn f a n):Out f n [] a n:=
 ⟨h.hp,h.inj,List.Pairwise.nil,fun v hv=>(by cases hv),fun v=>by rw[h.con v];simp⟩
theorem Kep.more {K K2:Nat→Prop} {u v w:World} (h:Kep K u v) (h2:Kep K2 v w) (hs:∀k,K k→K2 k):Kep K u w:=
 ⟨h2.os.trans h.os,h2.tape.trans h.tape,h2.output.trans h.output,Nat.le_trans h.size h2.size,fun k hk=>(h2.block k (hs k hk)).trans (h.block k hk)⟩
theorem own_blk {w w':World} {B n:Nat} {e:TypeId} {v:Value} {xs:List Value} (h:w.ownsRow B e 1 v n xs) (hb:∀k,v.ownBlock=some k→w'.heap[k]?=w.heap[k]?):w'.ownsRow B e 1 v n xs:=by
 refine⟨h.1,?_⟩
 rcases h.2 with h0|⟨g,cap,cur,e1,e2,hg,h2⟩
 · exact .inl h0
 · exact .inr ⟨g,cap,cur,e1,e2,(hb g (by rw[e1];rfl)).trans hg,h2⟩
section
variable {G B1:Nat} {b:Option Addr} {m d:Nat} {sg:Int} {K:Nat→Prop} {W0:World} {pf:Option Addr→Prop} {M:Nat} {xs:List Int} {a:Nat→Nat} {n:Nat} {w w':World} {pa:Option Addr} {pc:Nat}
theorem hpu (C:OC G B1 b m d sg K W0 pf M xs) (hall:∀q,pf q):HpPu (fun k=>sg*xs.getD k 0) 161 (.pointer (some ⟨G,0,none⟩)) (OS G B1 b m d sg K W0 pf M) M where
 ml:=fun w=>by kernel_rfl
 ms:=fun w=>by kernel_rfl
 mlen:=fun w=>by kernel_rfl
 mpush:=fun w=>by kernel_rfl
 less:=fun w a n i j h hi hj=>oless_is C h hi hj
 swap:=fun w a n i j h hi hj=>oswap_is C h hi hj
 len:=fun w a n h=>olen_is h
 push:=fun w a n h hn=>opush_is C hall h hn
theorem hpo (C:OC G B1 b m d sg K W0 pf M xs):HpPo (fun k=>sg*xs.getD k 0) 161 (.pointer (some ⟨G,0,none⟩)) (OS G B1 b m d sg K W0 pf M) where
 ml:=fun w=>by kernel_rfl
 ms:=fun w=>by kernel_rfl
 mlen:=fun w=>by kernel_rfl
 mpop:=fun w=>by kernel_rfl
 less:=fun w a n i j h hi hj=>oless_is C h hi hj
 swap:=fun w a n i j h hi hj=>oswap_is C h hi hj
 len:=fun w a n h=>olen_is h
 pop:=fun w a n h=>opop_is C h
theorem Od.onB (h:Od G B1 b m d sg K W0 pf M a n w pa pc) {B:Nat} (hG:G<B) (hR:∀k,(Value.slice pa n pc).ownBlock=some k→k<B) (hK:∀k,K k→k<B) (hb:Below B w w'):Od G B1 b m d sg K W0 pf M a n w' pa pc:=
 ⟨(hb.block G hG).trans h.box,own_blk h.row fun k hk=>hb.block k (hR k hk),h.addr,
   ⟨hb.os.trans h.kep.os,hb.tape.trans h.kep.tape,hb.output.trans h.kep.output,Nat.le_trans h.kep.size hb.size,fun k hk=>(hb.block k (hK k hk)).trans (h.kep.block k hk)⟩,h.lt,h.nle⟩
theorem own_pa {k:Nat} (h:(Value.slice pa n pc).ownBlock=some k):∃p,pa=some p∧p.block=k:=by
 cases pa with
 |none=>cases h
 |some p=>exact⟨p,rfl,by simpa[Value.ownBlock]using h⟩
end
theorem sor_no {a1 b1:Option Addr} {n1 c1 m1 d1:Nat} {l:List Int} {es:List ByteArray} {W:World} {o:Option Ar} {sg:Int} (h1:Av W a1 n1 c1 b1 m1 d1 l es o) (hv:vcE o≠0):
 Calls Tryz.prog 160 #[.agg #[.slice a1 n1 c1,.slice b1 m1 d1],.int .i64 sg] W (MEnd (none,vcE o) W):=by
 have KC:=Lib.hid (fun w (hb:Below W.heap.size W w)=>SVec_is (h1.below hb))
 generalize vcE o=k at*
 have hk:(k != 0)=true:=by simpa using hv
 clear h1 hv
 have h:=live1 W a1 n1 c1 b1 m1 d1
 go_enter Tryz.func160,Tryz.ntmps160
 have x1:=h.out.2.1.c0
 have y1:=h.out.2.1.c1
 go_wp2_with fail
 with_reducible refine(live h (KC.out _ h.out.2.2)).mono ?_
 clear h x1 y1
 rintro e w ⟨rfl,h⟩
 have y0:=h.out.1.c0
 have y3:=h.out.1.c1
 have f0:=h.out.1.f 0
 have f1:=h.out.1.f 1
 go_wp2_with fail
 have hR:=h.out.1.set none 0 0 none 0 0
 have r0:=hR.c0
 have r1:=hR.c1
 exact bodyPost_ret (v:=.tuple #[.agg #[.slice none 0 0,.slice none 0 0],.int .i64 k]) (by simp[results,Tryz.results160,go_sem,r0,r1]) rfl (mend_no h.out.1 h.out.2.2 (by omega))
theorem sor_yes {a1 b1:Option Addr} {n1 c1 m1 d1:Nat} {l:List Int} {es:List ByteArray} {W:World} {q:Ar} {sg:Int} (h1:Av W a1 n1 c1 b1 m1 d1 l es (some q)) (hW:WT W) (hv:vcE (some q)=0) (hsg:sg=1∨sg= -1):
 Calls Tryz.prog 160 #[.agg #[.slice a1 n1 c1,.slice b1 m1 d1],.int .i64 sg] W (MEnd (some ([(q.2.length:Int)],intL (orL (fun i=>sg*q.2.getD i 0) q.2.length)),0) W):=by
 have KC:=Lib.hid (fun w (hb:Below W.heap.size W w)=>SVec_is (h1.below hb))
 rw[hv]at KC
 have hm4:=h1.mlen.2.2
 have hml:=h1.mlen.1
 have KW:=Lib.hid (fun w (hb:Below W.heap.size W w)=>hW.below hb)
 have HST:=Lib.hid (show St W b1 m1 (q.2.map S)from by have:=h1.v.t;rwa [h1.i.2.1]at this)
 have HX:=Lib.hid h1.i.2.2.2
 obtain⟨xs,hxs⟩:∃xs,xs=q.2:=⟨_,rfl⟩
 rw[←hxs]at HST HX hml
 rw[←hxs,←hml]
 obtain⟨f,hf⟩:∃f,f=fun k:Nat=>sg*xs.getD k 0:=⟨_,rfl⟩
 rw[←hf]
 have HPU:=Lib.hid (fun G wo (C:OC G (G+1) b1 m1 d1 sg (fun k=>k<G) wo (fun _=>True) m1 xs)=>hpu C fun _=>trivial)
 have HPO:=Lib.hid (fun G K w0 pf (C:OC G (G+1) b1 m1 d1 sg K w0 pf m1 xs)=>hpo C)
 rw[←hf]at HPU HPO
 have KI:=Lib.hid (fun w a c L (hL:orL f m1=L) (hs:Sl w a m1 (intL L)) (ht:WT w)=>(show Calls Tryz.prog 27 #[.slice a m1 c] w (PtEnd [(m1:Int)] ((intL (orL f m1)).map S) w)from by
  rw[hL]
  refine Ints_pt a m1 c (intL L) w hs (fun j hj=> ?_) (by omega) ht
  have hl:j<L.length:=by rw[←hL,or_len];exact hj
  have h5:=or_lt (f:=f) (n:=m1) L[j] (by rw[hL];exact List.getElem_mem hl)
  rw[List.getD_eq_getElem?_getD,intL,List.getElem?_map,List.getElem?_eq_getElem hl]
  show I64 (L[j]:Int)
  unfold I64;omega))
 have HR:=Lib.hid (or_rok f hm4)
 have HSG:=Lib.hid hsg
 clear h1 hv hf hml hxs hsg hW
 have h:=live1 W a1 n1 c1 b1 m1 d1
 go_enter Tryz.func160,Tryz.ntmps160
 have x1:=h.out.2.1.c0
 have y1:=h.out.2.1.c1
 go_wp2_with fail
 with_reducible refine(live h (KC.out _ h.out.2.2)).mono ?_
 clear h x1 y1
 rintro e w ⟨rfl,h⟩
 obtain⟨G,hG⟩:∃G,G=w.heap.size:=⟨_,rfl⟩
 have y1:=h.out.2.1.c1
 have l1:=h.out.2.1.lt
 obtain⟨wo,hwo⟩:∃z,z=w.alloc (.cells #[.slice b1 m1 d1,.slice none 0 0,.int .i64 sg] 163):=⟨_,rfl⟩
 have hbo:Below G w wo:=by rw[hwo,hG];exact(Below.refl _ _).alloc (Nat.le_refl _) _
 have hso:wo.heap.size=G+1:=by rw[hwo,hG];simp
 have hbx:wo.heap[G]?=some (.cells #[.slice b1 m1 d1,.slice none 0 0,.int .i64 sg] 163 (0,0)):=by rw[hwo,hG];exact heap_alloc_new w _
 have y1o:=(hbo.cell (p:=⟨W.heap.size,1,none⟩) (by rw[hG];exact l1)).trans y1
 have HEE:Hid (∀z,Kep (fun k=>k<G) wo z→Below W.heap.size W z):=Lib.hid fun z hz=>h.out.2.2.trans ((hbo.trans (hz.below fun k hk=>hk)).mono (by rw[hG];exact h.out.2.2.size))
 have HLV:Hid (∀z,Kep (fun k=>k<G) wo z→Lv (fun w=>Bx w (W.heap.size+1) none 0 0 none 0 0∧Bx w W.heap.size a1 n1 c1 b1 m1 d1∧Below W.heap.size W w) z):=Lib.hid fun z hz=>live_to h ((hbo.trans (hz.below fun k hk=>hk)).mono (by rw[hG];exact Nat.le_refl _))
 have C1:Hid (OC G (G+1) b1 m1 d1 sg (fun k=>k<G) wo (fun _=>True) m1 xs):=Lib.hid ⟨fun k hk=>by omega,by omega,rfl,fun R _ hR=>by omega,fun z hz=>HST.out.below (HEE.out z hz),HX.out,rfl,by omega,HSG.out⟩
 have HPU1:=Lib.hid (HPU.out G wo C1.out)
 have HO0:Hid (OS G (G+1) b1 m1 d1 sg (fun k=>k<G) wo (fun _=>True) m1 (fun _=>0) 0 wo):=Lib.hid ⟨none,0,hbx,World.ownsRow_nil _ _ _ _,trivial,Kep.refl _ _,fun k hk=>by omega,Nat.zero_le _⟩
 have hbx2:=Lib.hid hbx
 have HGE:=Lib.hid hG
 clear hbx h hbo HPU C1
 go_upto_region 5 with fail
 rw[←hwo,←hG]
 clear hwo hG y1 l1
 go_wp2_with fail
 go_loopw [24] (fun iv wr=>∃(i:Nat) (a:Nat→Nat),iv=.int .i64 (i:Int)∧i≤m1∧OS G (G+1) b1 m1 d1 sg (fun k=>k<G) wo (fun _=>True) m1 a i wr∧Hid (Hpn f a i)) (fun iv _=>m1-(intOf iv).toNat)
 case atStart=>exact⟨0,fun _=>0,rfl,Nat.zero_le _,HO0.out,Lib.hid (Hpn.zero f _)⟩
 case round=>
  obtain⟨i,a,rfl,hi,hs,HP⟩:=hrel
  by_cases hlt:i<m1
  · have e3:(i:Int)<(m1:Int):=by omega
    have K9:=Lib.hid (hpush_is HPU1.out hs hlt (by omega) HP.out)
    clear hs HP
    go_wp2_with fail
    refine K9.out.mono ?_
    rintro e w3 ⟨rfl,c,hs3,hp3⟩
    have HP3:=Lib.hid hp3
    clear hp3 K9
    go_wp2_with fail
    go_roundw
    case rel=>exact⟨i+1,c,by go_num,by omega,hs3,HP3⟩
    case measure=>simp[intOf];omega
  · have e3:¬(i:Int)<(m1:Int):=by omega
    obtain rfl:i=m1:=by omega
    obtain⟨pa,pc,hd⟩:=hs
    obtain⟨B,hB⟩:∃B,B=wr.heap.size:=⟨_,rfl⟩
    have hGB:G<B:=by rw[hB];exact hd.gl
    have HPA:Hid (∀p,pa=some p→G+1≤p.block∧p.block<B):=Lib.hid fun p hp=>by
     have:=hd.row.lt p.block (by rw[hp];rfl)
     rw[hB];exact this
    have HD0:=Lib.hid hd
    have HOU:=Lib.hid HP.out.out
    clear hd HPU1 HO0 HP
    go_wp2_with fail
    go_loopw [9] (fun pv wz=>∃(n s:Nat) (a:Nat→Nat) (out:List Nat) (av:Option Addr) (cv pc:Nat),pv=.slice av s cv∧s+n=i∧Hid (s=out.length)∧Hid (Od G (G+1) b1 i d1 sg (fun k=>k<G) wo (fun r=>r=pa) i a n wz pa pc)∧wz.ownsRow B 3 1 (.slice av s cv) s (valsI (intL out))∧B≤wz.heap.size∧Hid (Out f i out a n)) (fun pv _=>i-lenV pv)
    case atStart=>exact⟨i,0,a,[],none,0,pc,rfl,by omega,Lib.hid rfl,Lib.hid ⟨HD0.out.box,HD0.out.row,rfl,HD0.out.kep,HD0.out.lt,HD0.out.nle⟩,World.ownsRow_nil _ _ _ _,by omega,HOU⟩
    case round=>
     obtain⟨n,s,a,out,av,cv,pc2,rfl,hsn,HSO,HD,ho,hBz,HO⟩:=hrel
     clear HD0 HOU
     have KL:=Lib.hid (olen_q HD.out)
     cases n with
     |zero=>
      go_wp2_with fail
      refine KL.out.mono ?_
      rintro e w9 ⟨rfl,rfl⟩
      obtain rfl:s=i:=by omega
      have HOR:=Lib.hid (orL_is HO.out.ends)
      have hsl:=Lib.hid (own_sl ho)
      have h:=HLV.out _ HD.out.kep
      have KI2:=Lib.hid (KI.out _ av cv out HOR.out hsl.out (KW.out _ h.out.2.2))
      clear ho KI
      have y0:=h.out.1.c0
      have y3:=h.out.1.c1
      have f0:=h.out.1.f 0
      have f1:=h.out.1.f 1
      go_wp2_with fail
      with_reducible refine(live_pt h KI2.out).mono ?_
      clear h y0 y3 f0 f1
      rintro e w ⟨ar,nr,cr,br,mr,dr,rfl,h,hv,hc⟩
      have y0:=h.out.1.c0
      have y3:=h.out.1.c1
      have f0:=h.out.1.f 0
      have f1:=h.out.1.f 1
      go_wp2_with fail
      have hR:=h.out.1.set ar nr cr br mr dr
      have r0:=hR.c0
      have r1:=hR.c1
      exact bodyPost_ret (v:=.tuple #[.agg #[.slice ar nr cr,.slice br mr dr],.int .i64 0]) (by simp[results,Tryz.results160,go_sem,r0,r1]) rfl
       (mend_box (r:=(some ([(s:Int)],intL (orL f s)),0)) h.out.1 h.out.2.2 (by omega) hv hc HR.out)
     |succ n=>
      have hnp:(0:Int)<((n+1:Nat):Int):=by omega
      have C2:OC G (G+1) b1 i d1 sg (fun k=>(k<G∨B≤k)∧k<wr.heap.size) wr (fun r=>r=pa) i xs:=⟨fun k hk=>hk.2,by omega,rfl,fun R hR hR2=>by
       have:=HPA.out _ hR.symm
       simp only at this
       omega,fun z hz=>HST.out.below (HEE.out z (HD.out.kep.more hz fun k hk=>⟨.inl hk,by omega⟩)),HX.out,rfl,by omega,HSG.out⟩
      have K9:=Lib.hid (hpop_is (HPO.out G _ _ _ C2) (a:=a) (n:=n) (W:=wr) ⟨pa,pc2,HD.out.box,HD.out.row,rfl,Kep.refl _ _,HD.out.lt,HD.out.nle⟩ (by omega) HO.out.hp)
      have HOW:=Lib.hid ho
      clear ho C2
      go_wp2_with fail
      refine KL.out.mono ?_
      rintro e w9 ⟨rfl,rfl⟩
      go_wp2_with fail
      refine K9.out.mono ?_
      rintro e w3 ⟨rfl,c,⟨pa',pc3,hd3⟩,hhp,hinj,hcon⟩
      obtain rfl:pa'=pa:=hd3.addr
      have HO2:=Lib.hid (HO.out.pop hhp (hinj HO.out.inj) hcon)
      have ho3:w3.ownsRow B 3 1 (.slice av s cv) s (valsI (intL out)):=own_blk HOW.out fun k hk=>by
       have:=HOW.out.lt k hk
       exact hd3.kep.block k ⟨.inr this.1,this.2⟩
      have hB3:B≤w3.heap.size:=Nat.le_trans hBz hd3.kep.size
      have HD3:Hid (Od G (G+1) b1 i d1 sg (fun k=>k<G) wo (fun r=>r=pa') i c n w3 pa' pc3):=Lib.hid ⟨hd3.box,hd3.row,rfl,HD.out.kep.more hd3.kep fun k hk=>⟨.inl hk,by omega⟩,hd3.lt,hd3.nle⟩
      have HO3:=Lib.hid (ho3.alloc (.cells #[.int .i64 (a 0:Int)] 3))
      have hr5:=Lib.hid (own_rd (own_new1 w3 (a 0:Int)))
      have hta:∀w,(Instr.typeAssert (.iface 3 (.int .i64 (a 0:Int))) 20 3 false).run Tryz.prog w=.ok (.int .i64 (a 0:Int)) w:=fun w=>by kernel_rfl
      clear hd3 hhp hinj hcon HO HD ho3 HOW K9 KL
      go_wp2_with (at_builtin;refine wpList_append_rd rfl (.tmp 36) (.tmp 41) 22 rfl B 3 (.int .i64 0) 8 Tryz.underlying22 infoInt1 rfl (by decide) _ s _ rfl HO3.out _ 1 1 (valsI [(a 0:Int)]) rfl hr5.out (valsI_one _) (by omega) (by simp;omega) ?_;intro av' cv' w4 hown4 hg4)
      have hb4:Below B w3 w4:=((Below.refl B w3).alloc hB3 _).trans (grown_below' hg4 (fun g' hg'=>(HO3.out.lt g' hg').1) (by simp;omega))
      rw[←int_snoc]at hown4
      have HD4:=Lib.hid (HD3.out.onB hGB (fun k hk=>by obtain⟨p,hp,rfl⟩:=own_pa hk;exact(HPA.out p hp).2) (fun k hk=>by omega) hb4)
      have hB4:B≤w4.heap.size:=Nat.le_trans hB3 hb4.size
      clear hg4 hb4 HO3 hr5
      go_wp2_with fail
      go_roundw
      case rel=>exact⟨n,s+1,c,out++[a 0],av',cv',pc3,rfl,by omega,Lib.hid (by rw[List.length_append,←HSO.out];rfl),HD4,hown4,hB4,HO2⟩
      case measure=>simp[lenV];omega
theorem sordered_is {a1 b1:Option Addr} {n1 c1 m1 d1:Nat} {l:List Int} {es:List ByteArray} {W:World} {o:Option Ar} {sg:Int} (h1:Av W a1 n1 c1 b1 m1 d1 l es o) (hW:WT W) (hsg:sg=1∨sg= -1):Calls Tryz.prog 160 #[.agg #[.slice a1 n1 c1,.slice b1 m1 d1],.int .i64 sg] W (MEnd (upK sg o) W):=by
 by_cases hv:vcE o=0
 · obtain⟨q,rfl,hl⟩:=vc_yes hv
   rw[up_yes sg hl]
   exact sor_yes h1 hW hv hsg
 · rw[up_no hv];exact sor_no h1 hv
theorem SUp_is {a1 b1:Option Addr} {n1 c1 m1 d1:Nat} {l:List Int} {es:List ByteArray} {W:World} {o:Option Ar} (h1:Av W a1 n1 c1 b1 m1 d1 l es o) (hW:WT W):Calls Tryz.prog 115 #[.agg #[.slice a1 n1 c1,.slice b1 m1 d1]] W (MEnd (upK 1 o) W):=by
 have KO:=Lib.hid (fun w (hb:Below W.heap.size W w)=>sordered_is (sg:=1) (h1.below hb) (hW.below hb) (by simp))
 clear h1 hW
 generalize upK 1 o=R at*
 obtain⟨ro,rk⟩:=R
 have h:=live1 W a1 n1 c1 b1 m1 d1
 go_enter Tryz.func115,Tryz.ntmps115
 have x1:=h.out.2.1.c0
 have y1:=h.out.2.1.c1
 have y0:=h.out.1.c0
 have y3:=h.out.1.c1
 have f0:=h.out.1.f 0
 have f1:=h.out.1.f 1
 go_wp2_with fail
 refine(KO.out _ h.out.2.2).mono ?_
 clear y0 y3 f0 f1 x1 y1
 rintro e w ⟨ar,nr,cr,br,mr,dr,rfl,hA,hb⟩
 replace h:=live_to h hb
 have y0:=h.out.1.c0
 have y3:=h.out.1.c1
 have f0:=h.out.1.f 0
 have f1:=h.out.1.f 1
 go_wp2_with fail
 have hR:=h.out.1.set ar nr cr br mr dr
 have r0:=hR.c0
 have r1:=hR.c1
 exact bodyPost_ret (v:=.tuple #[.agg #[.slice ar nr cr,.slice br mr dr],.int .i64 rk]) (by simp[results,Tryz.results115,go_sem,r0,r1]) rfl ⟨_,_,_,_,_,_,rfl,⟨⟨h.out.1.sl hA.v.s _ _,h.out.1.st hA.v.t _ _,hA.v.mm⟩,hA.c,hA.z,hA.i⟩,below_made h.out.2.2 (by omega) _ _⟩
theorem SDown_is {a1 b1:Option Addr} {n1 c1 m1 d1:Nat} {l:List Int} {es:List ByteArray} {W:World} {o:Option Ar} (h1:Av W a1 n1 c1 b1 m1 d1 l es o) (hW:WT W):Calls Tryz.prog 116 #[.agg #[.slice a1 n1 c1,.slice b1 m1 d1]] W (MEnd (upK (-1) o) W):=by
 have KO:=Lib.hid (fun w (hb:Below W.heap.size W w)=>sordered_is (sg:= -1) (h1.below hb) (hW.below hb) (by simp))
 clear h1 hW
 generalize upK (-1) o=R at*
 obtain⟨ro,rk⟩:=R
 have h:=live1 W a1 n1 c1 b1 m1 d1
 go_enter Tryz.func116,Tryz.ntmps116
 have x1:=h.out.2.1.c0
 have y1:=h.out.2.1.c1
 have y0:=h.out.1.c0
 have y3:=h.out.1.c1
 have f0:=h.out.1.f 0
 have f1:=h.out.1.f 1
 go_wp2_with fail
 refine(KO.out _ h.out.2.2).mono ?_
 clear y0 y3 f0 f1 x1 y1
 rintro e w ⟨ar,nr,cr,br,mr,dr,rfl,hA,hb⟩
 replace h:=live_to h hb
 have y0:=h.out.1.c0
 have y3:=h.out.1.c1
 have f0:=h.out.1.f 0
 have f1:=h.out.1.f 1
 go_wp2_with fail
 have hR:=h.out.1.set ar nr cr br mr dr
 have r0:=hR.c0
 have r1:=hR.c1
 exact bodyPost_ret (v:=.tuple #[.agg #[.slice ar nr cr,.slice br mr dr],.int .i64 rk]) (by simp[results,Tryz.results116,go_sem,r0,r1]) rfl ⟨_,_,_,_,_,_,rfl,⟨⟨h.out.1.sl hA.v.s _ _,h.out.1.st hA.v.t _ _,hA.v.mm⟩,hA.c,hA.z,hA.i⟩,below_made h.out.2.2 (by omega) _ _⟩
end Go.Proofs.YtbijncndjlmmdaaGreatDoor
namespace Go.Proofs.YtbijncndjlmmdaaGreatDoor
set_option linter.unusedVariables false
set_option linter.unusedSimpArgs false
open Go.RowKit
theorem fst_look {w:World} {B n:Nat} {l:List ByteArray} {s:ByteArray} (h:Fst w B n l) (hs:s∈l) (hz:s.size≤maxLen):(Instr.lookup 125 (.map (some B)) (.string s) false).run Tryz.prog w=.ok (.int .i64 ((fpS l s:Nat):Int)) w:=by
 obtain⟨D,h1,h2⟩:=h
 obtain⟨c,hr,hat,_⟩:=h1.lookup_int fkeyed Tryz.underlying125 Tryz.underlying3 (fzero _) (Go.WideMaps.keyOf_string_mk Tryz.underlying9 hz)
 rw[hr,h2.at hs hat]
theorem fst_look_ok {w:World} {B n:Nat} {l:List ByteArray} {s:ByteArray} (h:Fst w B n l) (hz:s.size≤maxLen):∃c:Int,(Instr.lookup 125 (.map (some B)) (.string s) true).run Tryz.prog w=.ok (.tuple #[.int .i64 c,.bool (@decide (s∈l) (Classical.propDecidable _))]) w∧(s∈l→c=(fpS l s:Nat)):=by
 obtain⟨D,h1,h2⟩:=h
 obtain⟨v,ps,hr,hv⟩:=h1.look_ok fkeyed Tryz.underlying125 (fzero _) (plainElem_int (H:=Unit) (P:=Tryz.prog) (e:=3) (q:=.i64) Tryz.underlying3 (a:=0) (by decide)) (Go.WideMaps.keyOf_string_mk Tryz.underlying9 hz)
 obtain⟨c,rfl,hc,_⟩:=plainElem_int_inv Tryz.underlying3 hv
 refine⟨c,?_,fun hs=>h2.at hs (congrArg Prod.fst hc)⟩
 rw[hr]
 by_cases hs:s∈l
 · rw[h2.yes hs,@decide_eq_true _ (Classical.propDecidable _) hs]
 · rw[h2.no hs,@decide_eq_false _ (Classical.propDecidable _) hs]
theorem sun_no {a1 b1:Option Addr} {n1 c1 m1 d1:Nat} {l:List Int} {es:List ByteArray} {W:World} {o:Option Ar} (h1:Av W a1 n1 c1 b1 m1 d1 l es o) (hv:vcE o≠0):
 Calls Tryz.prog 118 #[.agg #[.slice a1 n1 c1,.slice b1 m1 d1]] W (MEnd (none,vcE o) W):=by
 have KC:=Lib.hid (fun w (hb:Below W.heap.size W w)=>SVec_is (h1.below hb))
 generalize vcE o=k at*
 have hk:(k != 0)=true:=by simpa using hv
 clear h1 hv
 have h:=live1 W a1 n1 c1 b1 m1 d1
 go_enter Tryz.func118,Tryz.ntmps118
 have x1:=h.out.2.1.c0
 have y1:=h.out.2.1.c1
 go_wp2_with fail
 with_reducible refine(live h (KC.out _ h.out.2.2)).mono ?_
 clear h x1 y1
 rintro e w ⟨rfl,h⟩
 have y0:=h.out.1.c0
 have y3:=h.out.1.c1
 have f0:=h.out.1.f 0
 have f1:=h.out.1.f 1
 go_wp2_with fail
 have hR:=h.out.1.set none 0 0 none 0 0
 have r0:=hR.c0
 have r1:=hR.c1
 exact bodyPost_ret (v:=.tuple #[.agg #[.slice none 0 0,.slice none 0 0],.int .i64 k]) (by simp[results,Tryz.results118,go_sem,r0,r1]) rfl (mend_no h.out.1 h.out.2.2 (by omega))
theorem sun_yes {a1 b1:Option Addr} {n1 c1 m1 d1:Nat} {l:List Int} {es:List ByteArray} {W:World} {q:Ar} (h1:Av W a1 n1 c1 b1 m1 d1 l es (some q)) (hv:vcE (some q)=0):
 Calls Tryz.prog 118 #[.agg #[.slice a1 n1 c1,.slice b1 m1 d1]] W (MEnd (some ([((unS q.2).length:Int)],unS q.2),0) W):=by
 have KC:=Lib.hid (fun w (hb:Below W.heap.size W w)=>SVec_is (h1.below hb))
 rw[hv]at KC
 have hm4:=h1.mlen.2.2
 have hml:=h1.mlen.1
 have HR:=Lib.hid (un_rok h1.i.rok (by rw[←hml];exact hm4))
 have HS:=Lib.hid (show St W b1 m1 (q.2.map S)from by have:=h1.v.t;rwa [h1.i.2.1]at this)
 have HZ:=Lib.hid (show∀j,j<m1→((q.2.map S).getD j ByteArray.empty).size≤maxLen from by have:=h1.z;rwa [h1.i.2.1]at this)
 obtain⟨L,hL⟩:∃L,L=q.2:=⟨_,rfl⟩
 rw[←hL]at HR HS HZ hml
 rw[←hL]
 have KF:=Lib.hid (fun w (hb:Below W.heap.size W w)=>SFirsts_is b1 m1 d1 (L.map S) w (HS.out.below hb) HZ.out (by omega))
 have HL:=Lib.hid hml.symm
 clear h1 hv hml hL
 have h:=live1 W a1 n1 c1 b1 m1 d1
 go_enter Tryz.func118,Tryz.ntmps118
 have x1:=h.out.2.1.c0
 have y1:=h.out.2.1.c1
 go_wp2_with fail
 with_reducible refine(live h (KC.out _ h.out.2.2)).mono ?_
 clear h x1 y1
 rintro e w ⟨rfl,h⟩
 have x1:=h.out.2.1.c0
 have y1:=h.out.2.1.c1
 go_wp2_with fail
 with_reducible refine(live_fs h (KF.out _ h.out.2.2)).mono ?_
 clear h x1 y1
 rintro e w ⟨M,rfl,h⟩
 have HLV:=Lib.hid h
 obtain⟨B,hB⟩:∃B,B=w.heap.size:=⟨_,rfl⟩
 have x1:=h.out.2.2.1.c0
 have y1:=h.out.2.2.1.c1
 clear h
 go_wp2_with fail
 go_loopw [6,21] (fun ov iv wr=>∃(i s:Nat) (av:Option Addr) (cv:Nat),ov=.slice av s cv∧iv=.int .i64 (i:Int)∧i≤m1∧s≤i∧Hid (s=(unS (L.take i)).length)∧wr.ownsRow B 9 1 (.slice av s cv) s (valsS ((unS (L.take i)).map S))∧Below B w wr) (fun _ iv _=>m1-(intOf iv).toNat)
 case atStart=>exact⟨0,0,none,0,rfl,rfl,Nat.zero_le _,Nat.zero_le _,Lib.hid rfl,World.ownsRow_nil _ _ _ _,by rw[hB];exact Below.refl _ _⟩
 case round=>
  obtain⟨i,s,av,cv,rfl,rfl,hi,hsi,HSS,ho,hb⟩:=hrel
  clear x1 y1
  have h:Lv (fun z=>Fst z M (L.map S).length (L.map S)∧Bx z (W.heap.size+1) none 0 0 none 0 0∧Bx z W.heap.size a1 n1 c1 b1 m1 d1∧Below W.heap.size W z) wr:=live_to HLV.out (by rw[←hB];exact hb) (by repeat' (first|exact Stb.fst|exact Stb.bel _|exact Stb.bx|refine Stb.and ?_ ?_))
  have hsz:=hb.size
  by_cases hil:i<m1
  · have e3:(i:Int)<(m1:Int):=by omega
    obtain⟨bb,off,rfl,hc⟩:=HS.out.2 (by omega)
    have hck:=(h.out.2.2.2.cell (p:=⟨bb,off+i,none⟩) (World.block_lt_of_cell? W _ (hc i hil))).trans (hc i hil)
    have hzi:=HZ.out i hil
    rw[getD_S (by rw[HL.out];exact hil)]at hck hzi
    have HU:=Lib.hid (un_take (xs:=L) (i:=i) (by rw[HL.out];exact hil))
    have hin:S (L.getD i 0)∈L.map S:=List.mem_map.2 ⟨_,by rw[List.getD_eq_getElem?_getD,List.getElem?_eq_getElem (by rw[HL.out];exact hil)];exact List.getElem_mem _,rfl⟩
    have hlk:=fst_look h.out.1 hin hzi
    rw[fp_S]at hlk
    obtain⟨x,hx⟩:∃x,x=L.getD i 0:=⟨_,rfl⟩
    rw[←hx]at hck hlk HU
    obtain⟨f,hf⟩:∃f,f=fpS L x:=⟨_,rfl⟩
    rw[←hf]at hlk HU
    have HO:=Lib.hid ho
    have HBB:=Lib.hid hb
    clear hc hx hf hin hzi ho hb h
    obtain⟨tx,htx⟩:∃tx,tx=S x:=⟨_,rfl⟩
    rw[←htx]at hck hlk
    have HTX:=Lib.hid htx
    clear htx
    by_cases hfi:f=i
    · have e4:((f:Int)==(i:Int))=true:=by rw[hfi];exact beq_self_eq_true _
      have ho2:=Lib.hid (HO.out.alloc (.cells #[.string tx] 9))
      have hr5:=Lib.hid (own_rd (own_newS1 wr tx))
      go_wp2_with (at_builtin;refine wpList_append_rd rfl (.tmp 31) (.tmp 33) 23 rfl B 9 (.string ⟨#[]⟩) 16 Tryz.underlying23 infoStr rfl (by decide) _ s _ rfl ho2.out _ 1 1 (valsS [tx]) rfl hr5.out (valsS_one _) (by omega) (by simp;omega) ?_;intro av' cv' w3 hown3 hg3)
      have hb6:Below B w w3:=(HBB.out.alloc (by omega) _).trans (grown_below' hg3 (fun g' hg'=>(ho2.out.lt g' hg').1) (by simp;omega))
      rw[valsS_add]at hown3
      clear hg3 ho2 hr5
      go_wp2_with fail
      go_roundw
      case rel=>exact⟨i+1,s+1,av',cv',rfl,by go_num,by omega,by omega,Lib.hid (by rw[HU.out,if_pos hfi,List.length_append,←HSS.out];rfl),by rw[HU.out,if_pos hfi,List.map_append];rw[List.map_singleton,←HTX.out];exact hown3,hb6⟩
      case measure=>simp[intOf];omega
    · have e4:((f:Int)==(i:Int))=false:=beq_eq_false_iff_ne.2 (by omega)
      go_wp2_with fail
      go_roundw
      case rel=>exact⟨i+1,s,av,cv,rfl,by go_num,by omega,by omega,Lib.hid (by rw[HU.out,if_neg hfi,List.append_nil];exact HSS.out),by rw[HU.out,if_neg hfi,List.append_nil];exact HO.out,HBB.out⟩
      case measure=>simp[intOf];omega
  · have e3:¬(i:Int)<(m1:Int):=by omega
    obtain rfl:i=m1:=by omega
    have e5:L.take i=L:=List.take_of_length_le (by rw[HL.out];exact Nat.le_refl _)
    rw[e5]at HSS ho
    have hs:=HSS.out
    have hst:=Lib.hid (own_st ho)
    have KV:=Lib.hid (Vector_pt av s cv ((unS L).map S) wr hst.out (by omega))
    subst hs
    have hh:Lv (fun z=>Bx z (W.heap.size+1) none 0 0 none 0 0∧Bx z W.heap.size a1 n1 c1 b1 i d1∧Below W.heap.size W z) wr:=⟨h.out.2⟩
    clear ho hb h KF
    generalize hUL:unS L=UL at*
    have h:=hh
    clear hh
    have y0:=h.out.1.c0
    have y3:=h.out.1.c1
    have f0:=h.out.1.f 0
    have f1:=h.out.1.f 1
    go_wp2_with fail
    with_reducible refine(live_pt h KV.out).mono ?_
    clear h y0 y3 f0 f1
    rintro e w ⟨ar,nr,cr,br,mr,dr,rfl,h,hv,hc⟩
    have y0:=h.out.1.c0
    have y3:=h.out.1.c1
    have f0:=h.out.1.f 0
    have f1:=h.out.1.f 1
    go_wp2_with fail
    have hR:=h.out.1.set ar nr cr br mr dr
    have r0:=hR.c0
    have r1:=hR.c1
    exact bodyPost_ret (v:=.tuple #[.agg #[.slice ar nr cr,.slice br mr dr],.int .i64 0]) (by simp[results,Tryz.results118,go_sem,r0,r1]) rfl
     (mend_box (r:=(some ([(UL.length:Int)],UL),0)) h.out.1 h.out.2.2 (by omega) hv hc HR.out)
theorem SUnique_is {a1 b1:Option Addr} {n1 c1 m1 d1:Nat} {l:List Int} {es:List ByteArray} {W:World} {o:Option Ar} (h1:Av W a1 n1 c1 b1 m1 d1 l es o) (hW:WT W):Calls Tryz.prog 118 #[.agg #[.slice a1 n1 c1,.slice b1 m1 d1]] W (MEnd (unK o) W):=by
 by_cases hv:vcE o=0
 · obtain⟨q,rfl,hl⟩:=vc_yes hv
   rw[un_yes hl];exact sun_yes h1 hv
 · rw[un_no hv];exact sun_no h1 hv
theorem sfd_w {a1 b1 a2 b2:Option Addr} {n1 c1 m1 d1 n2 c2 m2 d2:Nat} {l m:List Int} {es fs:List ByteArray} {W:World} (h2:Av W a2 n2 c2 b2 m2 d2 m fs none):
 Calls Tryz.prog 105 #[.agg #[.slice a1 n1 c1,.slice b1 m1 d1],.agg #[.slice a2 n2 c2,.slice b2 m2 d2]] W (MEnd (none,1) W):=by
 have KU:=Lib.hid (fun w (hb:Below W.heap.size W w)=>VMay_av (h2.below hb))
 clear h2
 have h:=live2 W a1 n1 c1 b1 m1 d1 a2 n2 c2 b2 m2 d2
 go_enter Tryz.func105,Tryz.ntmps105
 have x2:=h.out.2.1.c0
 have y2:=h.out.2.1.c1
 go_wp2_with fail
 with_reducible refine(live h (KU.out _ h.out.2.2.2)).mono ?_
 clear h x2 y2
 rintro e w ⟨rfl,h⟩
 have y0:=h.out.1.c0
 have y3:=h.out.1.c1
 have f0:=h.out.1.f 0
 have f1:=h.out.1.f 1
 go_wp2_with fail
 have hR:=h.out.1.set none 0 0 none 0 0
 have r0:=hR.c0
 have r1:=hR.c1
 exact bodyPost_ret (v:=.tuple #[.agg #[.slice none 0 0,.slice none 0 0],.int .i64 1]) (by simp[results,Tryz.results105,go_sem,r0,r1]) rfl (mend_no h.out.1 h.out.2.2.2 (by omega))
theorem sfd_v {a1 b1 a2 b2:Option Addr} {n1 c1 m1 d1 n2 c2 m2 d2:Nat} {l m:List Int} {es fs:List ByteArray} {W:World} {o:Option Ar} {r:Ar} (h1:Av W a1 n1 c1 b1 m1 d1 l es o) (h2:Av W a2 n2 c2 b2 m2 d2 m fs (some r)) (hv:vcE o≠0):
 Calls Tryz.prog 105 #[.agg #[.slice a1 n1 c1,.slice b1 m1 d1],.agg #[.slice a2 n2 c2,.slice b2 m2 d2]] W (MEnd (none,vcE o) W):=by
 have KU:=Lib.hid (fun w (hb:Below W.heap.size W w)=>VMay_av (h2.below hb))
 have KC:=Lib.hid (fun w (hb:Below W.heap.size W w)=>SVec_is (h1.below hb))
 generalize vcE o=k at*
 have hk:(k != 0)=true:=by simpa using hv
 clear h1 h2 hv
 have h:=live2 W a1 n1 c1 b1 m1 d1 a2 n2 c2 b2 m2 d2
 go_enter Tryz.func105,Tryz.ntmps105
 have x2:=h.out.2.1.c0
 have y2:=h.out.2.1.c1
 go_wp2_with fail
 with_reducible refine(live h (KU.out _ h.out.2.2.2)).mono ?_
 clear h x2 y2
 rintro e w ⟨rfl,h⟩
 have x1:=h.out.2.2.1.c0
 have y1:=h.out.2.2.1.c1
 go_wp2_with fail
 with_reducible refine(live h (KC.out _ h.out.2.2.2)).mono ?_
 clear h x1 y1
 rintro e w ⟨rfl,h⟩
 have y0:=h.out.1.c0
 have y3:=h.out.1.c1
 have f0:=h.out.1.f 0
 have f1:=h.out.1.f 1
 go_wp2_with fail
 have hR:=h.out.1.set none 0 0 none 0 0
 have r0:=hR.c0
 have r1:=hR.c1
 exact bodyPost_ret (v:=.tuple #[.agg #[.slice none 0 0,.slice none 0 0],.int .i64 k]) (by simp[results,Tryz.results105,go_sem,r0,r1]) rfl (mend_no h.out.1 h.out.2.2.2 (by omega))
theorem sfd_yes {a1 b1 a2 b2:Option Addr} {n1 c1 m1 d1 n2 c2 m2 d2:Nat} {l m:List Int} {es fs:List ByteArray} {W:World} {q r:Ar} (h1:Av W a1 n1 c1 b1 m1 d1 l es (some q)) (h2:Av W a2 n2 c2 b2 m2 d2 m fs (some r)) (hW:WT W) (hv:vcE (some q)=0):
 Calls Tryz.prog 105 #[.agg #[.slice a1 n1 c1,.slice b1 m1 d1],.agg #[.slice a2 n2 c2,.slice b2 m2 d2]] W (MEnd (some (r.1,r.2.map fun x=>(fpS q.2 x:Int)),0) W):=by
 have KU:=Lib.hid (fun w (hb:Below W.heap.size W w)=>VMay_av (h2.below hb))
 have KC:=Lib.hid (fun w (hb:Below W.heap.size W w)=>SVec_is (h1.below hb))
 rw[hv]at KC
 have hm4:=h1.mlen.2.2
 have hml:=h1.mlen.1
 have hm5:=h2.mlen.2.2
 have hml2:=h2.mlen.1
 have hn3:=h2.n3
 have HR:=Lib.hid (fd_rok (q:=q) h2.i.rok (by rw[←hml];exact hm4))
 have HS:=Lib.hid (show St W b1 m1 (q.2.map S)from by have:=h1.v.t;rwa [h1.i.2.1]at this)
 have HS2:=Lib.hid (show St W b2 m2 (r.2.map S)from by have:=h2.v.t;rwa [h2.i.2.1]at this)
 have HZ:=Lib.hid (show∀j,j<m1→((q.2.map S).getD j ByteArray.empty).size≤maxLen from by have:=h1.z;rwa [h1.i.2.1]at this)
 have HZ2:=Lib.hid (show∀j,j<m2→((r.2.map S).getD j ByteArray.empty).size≤maxLen from by have:=h2.z;rwa [h2.i.2.1]at this)
 have HSL:=Lib.hid (show Sl W a2 n2 r.1 from by rw[h2.fst];exact h2.v.s)
 have KW:=Lib.hid (fun w (hb:Below W.heap.size W w)=>hW.below hb)
 obtain⟨L,hL⟩:∃L,L=q.2:=⟨_,rfl⟩
 obtain⟨R,hRR⟩:∃R,R=r.2:=⟨_,rfl⟩
 obtain⟨X,hX⟩:∃X,X=r.1:=⟨_,rfl⟩
 rw[←hL]at HR HS HZ hml
 rw[←hRR]at HR HS2 HZ2 hml2
 rw[←hX]at HR HSL
 rw[←hL,←hRR,←hX]
 have KF:=Lib.hid (fun w (hb:Below W.heap.size W w)=>SFirsts_is b1 m1 d1 (L.map S) w (HS.out.below hb) HZ.out (by omega))
 have HL:=Lib.hid hml.symm
 have HL2:=Lib.hid hml2.symm
 obtain⟨Fd,hFd⟩:∃Fd:List Int,Fd=R.map fun x=>(fpS L x:Int):=⟨_,rfl⟩
 rw[←hFd]at HR
 rw[←hFd]
 have HFL:Hid (Fd.length=m2):=Lib.hid (by rw[hFd,List.length_map];exact hml2.symm)
 have HFA:Hid (∀j,j<m2→Fd.getD j 0=(fpS L (R.getD j 0):Int)):=Lib.hid fun j hj=>by
  rw[hFd,List.getD_eq_getElem?_getD,List.getElem?_map,List.getElem?_eq_getElem (by omega),List.getD_eq_getElem?_getD,List.getElem?_eq_getElem (by omega)];rfl
 have hmk:=run_mki m2 (by omega)
 clear h1 h2 hv hml hml2 hL hRR hX hFd hW
 have h:=live2 W a1 n1 c1 b1 m1 d1 a2 n2 c2 b2 m2 d2
 go_enter Tryz.func105,Tryz.ntmps105
 have x2:=h.out.2.1.c0
 have y2:=h.out.2.1.c1
 go_wp2_with fail
 with_reducible refine(live h (KU.out _ h.out.2.2.2)).mono ?_
 clear h x2 y2
 rintro e w ⟨rfl,h⟩
 have x1:=h.out.2.2.1.c0
 have y1:=h.out.2.2.1.c1
 go_wp2_with fail
 with_reducible refine(live h (KC.out _ h.out.2.2.2)).mono ?_
 clear h x1 y1
 rintro e w ⟨rfl,h⟩
 have x1:=h.out.2.2.1.c0
 have y1:=h.out.2.2.1.c1
 go_wp2_with fail
 with_reducible refine(live_fs h (KF.out _ h.out.2.2.2)).mono ?_
 clear h x1 y1
 rintro e w ⟨M,rfl,h⟩
 have HLV:=Lib.hid h
 obtain⟨B,hB⟩:∃B,B=w.heap.size:=⟨_,rfl⟩
 obtain⟨wo,hwo⟩:∃z,z=w.alloc (.cells (madeCells #[.int .i64 0] m2) 3):=⟨_,rfl⟩
 have hbo:Below B w wo:=by rw[hwo,hB];exact(Below.refl _ _).alloc (Nat.le_refl _) _
 have hso:B<wo.heap.size:=by rw[hwo,hB];simp
 have hIR:Ir wo B m2 (fun _=>0):=by rw[hwo,hB];exact Ir.made w m2
 have x2:=h.out.2.2.1.c0
 have y2:=h.out.2.2.1.c1
 have y2o:=(hbo.cell (p:=⟨W.heap.size+1,1,none⟩) (by rw[hB];exact h.out.2.2.1.lt)).trans y2
 have HBO:=Lib.hid hbo
 clear h hbo
 go_upto_region 8 with fail
 rw[←hwo,←hB]
 clear hwo hmk
 have HBE:=Lib.hid hB
 clear hB
 go_wp2_with fail
 go_loopw [33] (fun iv wr=>∃(i:Nat) (F:Nat→Int),iv=.int .i64 (i:Int)∧i≤m2∧Ir wr B m2 F∧Hid (∀j,j<i→F j=Fd.getD j 0)∧Below B w wr) (fun iv _=>m2-(intOf iv).toNat)
 case atStart=>exact⟨0,_,rfl,Nat.zero_le _,hIR,Lib.hid (fun j hj=>by omega),HBO.out⟩
 case round=>
  obtain⟨i,F,rfl,hi,hR1,HF,hb⟩:=hrel
  clear hIR x2 y2 y2o
  have h:Lv (fun z=>Fst z M (L.map S).length (L.map S)∧Bx z (W.heap.size+1+1) none 0 0 none 0 0∧Bx z (W.heap.size+1) a2 n2 c2 b2 m2 d2∧Bx z W.heap.size a1 n1 c1 b1 m1 d1∧Below W.heap.size W z) wr:=live_to HLV.out (by rw[←HBE.out];exact hb) (by repeat' (first|exact Stb.fst|exact Stb.bel _|exact Stb.bx|refine Stb.and ?_ ?_))
  by_cases hil:i<m2
  · have e3:(i:Int)<(m2:Int):=by omega
    obtain⟨bb,off,rfl,hc⟩:=HS2.out.2 (by omega)
    have hck:=(h.out.2.2.2.2.cell (p:=⟨bb,off+i,none⟩) (World.block_lt_of_cell? W _ (hc i hil))).trans (hc i hil)
    have hzi:=HZ2.out i hil
    rw[getD_S (by rw[HL2.out];exact hil)]at hck hzi
    have HA:=Lib.hid (HFA.out i hil)
    obtain⟨x,hx⟩:∃x,x=R.getD i 0:=⟨_,rfl⟩
    rw[←hx]at hck hzi HA
    obtain⟨cc,hlk,hcc⟩:=fst_look_ok h.out.1 hzi
    rw[fp_S]at hcc
    have y1:=h.out.2.2.2.1.c1
    have yi:=hR1.cell (i:=i) hil
    have fi:=hR1.frozen i
    have HR3:=Lib.hid (fun v=>hR1.set i v)
    have HB3:=Lib.hid (fun v=>hb.setCell (p:=⟨B,i,none⟩) (Nat.le_refl B) (.int .i64 v))
    clear hc hx hzi hR1 hb h
    by_cases hin:S x∈L.map S
    · have hd:@decide (S x∈L.map S) (Classical.propDecidable _)=true:=@decide_eq_true _ (Classical.propDecidable _) hin
      have hc2:=hcc hin
      rw[hd,hc2]at hlk
      have HC2:=Lib.hid hc2
      obtain⟨tx,htx⟩:∃tx,tx=S x:=⟨_,rfl⟩
      rw[←htx]at hck hlk
      obtain⟨f,hf⟩:∃f,f=fpS L x:=⟨_,rfl⟩
      rw[←hf]at hlk HA
      clear hcc hin hd hc2 htx hf
      go_wp2_with fail
      go_roundw
      case rel=>exact⟨i+1,_,by go_num,by omega,HR3.out (f:Int),Lib.hid fun j hj=>by
       show(if j=i then(f:Int)else F j)=_
       by_cases e:j=i
       · rw[if_pos e,e,HA.out]
       · rw[if_neg e];exact HF.out j (by omega),HB3.out (f:Int)⟩
      case measure=>simp[intOf];omega
    · have hd:@decide (S x∈L.map S) (Classical.propDecidable _)=false:=@decide_eq_false _ (Classical.propDecidable _) hin
      rw[hd]at hlk
      have hfn:fpS L x=m1:=by rw[←fp_S,fp_not hin,List.length_map];exact HL.out
      rw[hfn]at HA
      obtain⟨tx,htx⟩:∃tx,tx=S x:=⟨_,rfl⟩
      rw[←htx]at hck hlk
      clear hcc hin hd htx hfn
      go_wp2_with fail
      go_roundw
      case rel=>exact⟨i+1,_,by go_num,by omega,HR3.out (m1:Int),Lib.hid fun j hj=>by
       show(if j=i then(m1:Int)else F j)=_
       by_cases e:j=i
       · rw[if_pos e,e,HA.out]
       · rw[if_neg e];exact HF.out j (by omega),HB3.out (m1:Int)⟩
      case measure=>simp[intOf];omega
  · have e3:¬(i:Int)<(m2:Int):=by omega
    obtain rfl:i=m2:=by omega
    have hS:Sl wr (some ⟨B,0,none⟩) i Fd:=hR1.sl HFL.out fun j hj=>HF.out j hj
    have KI:=Lib.hid (fun z (hb2:Below wr.heap.size wr z) (ht:WT z)=>Ints_pt (some ⟨B,0,none⟩) i i Fd z (hS.below hb2) (fun j hj=>by
     rw[HFA.out j hj]
     have:=fp_le L (R.getD j 0)
     rw[HL.out]at this
     unfold I64;omega) (by omega) ht)
    have hh:Lv (fun z=>Bx z (W.heap.size+1+1) none 0 0 none 0 0∧Bx z (W.heap.size+1) a2 n2 c2 b2 i d2∧Below W.heap.size W z) wr:=⟨h.out.2.1,h.out.2.2.1,h.out.2.2.2.2⟩
    have KL:=Lib.hid (Clone_o a2 n2 c2 X wr (HSL.out.below h.out.2.2.2.2) (by omega))
    clear hR1 hb h hS KF
    have h:=hh
    clear hh
    have hfld:∀w x y,(Instr.field 25 (.agg #[x,y]) 1).run Tryz.prog w=.ok y w:=fun w x y=>by kernel_rfl
    have x2:=h.out.2.1.c0
    have y2:=h.out.2.1.c1
    go_wp2_with fail
    refine KL.out.mono ?_
    rintro e w5 ⟨ca,cc,rfl,hoc,hb5⟩
    replace h:=live_to h hb5
    have HOC:=Lib.hid hoc
    have KI2:=Lib.hid (KI.out w5 hb5 (KW.out _ h.out.2.2))
    clear hoc hb5 x2 y2 KI KL
    go_wp2_with fail
    refine KI2.out.mono ?_
    rintro e w6 ⟨ai,ni,ci,bi,mi,di,rfl,hv,hc,hb6⟩
    replace h:=live_to h hb6
    have HO6:=Lib.hid (own_below HOC.out hb6)
    have HV:=Lib.hid (And.intro hv hc)
    clear hb6 KI2 HOC hv hc
    have y0:=h.out.1.c0
    have y3:=h.out.1.c1
    have f0:=h.out.1.f 0
    have f1:=h.out.1.f 1
    go_wp2_with fail
    have hR:=h.out.1.set ca n2 cc bi mi di
    have r0:=hR.c0
    have r1:=hR.c1
    have hmi:mi=i:=by have:=HV.out.1.t.1;rw[List.length_map,HFL.out]at this;omega
    exact bodyPost_ret (v:=.tuple #[.agg #[.slice ca n2 cc,.slice bi mi di],.int .i64 0]) (by simp[results,Tryz.results105,go_sem,r0,r1]) rfl
     (mend_box (r:=(some (X,Fd),0)) h.out.1 h.out.2.2 (by omega) ⟨own_sl HO6.out,HV.out.1.t,HV.out.1.mm⟩ ⟨(own_caps HO6.out).1,(own_caps HO6.out).2,HV.out.2.md,HV.out.2.dm⟩ HR.out)
theorem SFind_is {a1 b1 a2 b2:Option Addr} {n1 c1 m1 d1 n2 c2 m2 d2:Nat} {l m:List Int} {es fs:List ByteArray} {W:World} {o p:Option Ar} (h1:Av W a1 n1 c1 b1 m1 d1 l es o) (h2:Av W a2 n2 c2 b2 m2 d2 m fs p) (hW:WT W):
 Calls Tryz.prog 105 #[.agg #[.slice a1 n1 c1,.slice b1 m1 d1],.agg #[.slice a2 n2 c2,.slice b2 m2 d2]] W (MEnd (fdK o p) W):=by
 cases p with
 |none=>
  have e:fdK o none=(none,1):=by cases o<;>rfl
  rw[e];exact sfd_w (l:=l) (es:=es) h2
 |some r=>
  by_cases hv:vcE o=0
  · obtain⟨q,rfl,hl⟩:=vc_yes hv
    have e:fdK (some q) (some r)=(some (r.1,r.2.map fun x=>(fpS q.2 x:Int)),0):=by
     unfold fdK;dsimp only;rw[if_neg (fun e=>e hl)]
    rw[e];exact sfd_yes h1 h2 hW hv
  · have e:fdK o (some r)=(none,vcE o):=by
     cases o with
     |none=>rfl
     |some v=>
      unfold vcE at hv ⊢
      unfold fdK
      dsimp only at hv ⊢
      by_cases hl:v.1.length≠1
      · rw[if_pos hl,if_pos hl]
      · rw[if_neg hl]at hv;exact absurd rfl hv
    rw[e];exact sfd_v h1 h2 hv
end Go.Proofs.YtbijncndjlmmdaaGreatDoor

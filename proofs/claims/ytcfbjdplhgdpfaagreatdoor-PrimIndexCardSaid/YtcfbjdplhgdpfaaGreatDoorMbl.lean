import Derived.Test.YtcfbjdplhgdpfaaGreatDoorMbk
set_option maxHeartbeats 3200000
set_option maxRecDepth 100000
namespace Go.Proofs.YtcfbjdplhgdpfaaGreatDoor
set_option linter.unusedVariables false
set_option linter.unusedSimpArgs false
open Go.RowKit
theorem SVec_no {a1 b1:Option Addr} {n1 c1 m1 d1:Nat} {l:List Int} {es:List ByteArray} {W:World} (h1:Av W a1 n1 c1 b1 m1 d1 l es none):
 Calls Tryz.prog 105 #[.agg #[.slice a1 n1 c1,.slice b1 m1 d1]] W (IntEnd 1 W):=by
 have KV:=Lib.hid (fun w (hb:Below W.heap.size W w)=>VMay_av (h1.below hb))
 clear h1
 have h:=live10 W a1 n1 c1 b1 m1 d1
 go_enter Tryz.func105,Tryz.ntmps105
 have x1:=h.out.1.c0
 have y1:=h.out.1.c1
 go_wp2_with fail
 with_reducible refine(live h (KV.out _ h.out.2)).mono ?_
 clear h x1 y1
 rintro e w ⟨rfl,h⟩
 go_wp2_with fail
 go_ret
 exact⟨rfl,h.out.2⟩
theorem SVec_3 {a1 b1:Option Addr} {n1 c1 m1 d1:Nat} {l:List Int} {es:List ByteArray} {W:World} {q:Ar} (h1:Av W a1 n1 c1 b1 m1 d1 l es (some q)) (hc:n1≠1):
 Calls Tryz.prog 105 #[.agg #[.slice a1 n1 c1,.slice b1 m1 d1]] W (IntEnd 3 W):=by
 have KV:=Lib.hid (fun w (hb:Below W.heap.size W w)=>VMay_av (h1.below hb))
 have hn:(n1:Int)≠1:=by omega
 clear h1
 have h:=live10 W a1 n1 c1 b1 m1 d1
 go_enter Tryz.func105,Tryz.ntmps105
 have x1:=h.out.1.c0
 have y1:=h.out.1.c1
 go_wp2_with fail
 with_reducible refine(live h (KV.out _ h.out.2)).mono ?_
 clear h x1 y1
 rintro e w ⟨rfl,h⟩
 have x1:=h.out.1.c0
 have y1:=h.out.1.c1
 go_wp2_with fail
 go_ret
 exact⟨rfl,h.out.2⟩
theorem SVec_0 {a1 b1:Option Addr} {n1 c1 m1 d1:Nat} {l:List Int} {es:List ByteArray} {W:World} {q:Ar} (h1:Av W a1 n1 c1 b1 m1 d1 l es (some q)) (hc:n1=1):
 Calls Tryz.prog 105 #[.agg #[.slice a1 n1 c1,.slice b1 m1 d1]] W (IntEnd 0 W):=by
 have KV:=Lib.hid (fun w (hb:Below W.heap.size W w)=>VMay_av (h1.below hb))
 clear h1
 subst hc
 have h:=live10 W a1 1 c1 b1 m1 d1
 go_enter Tryz.func105,Tryz.ntmps105
 have x1:=h.out.1.c0
 have y1:=h.out.1.c1
 go_wp2_with fail
 with_reducible refine(live h (KV.out _ h.out.2)).mono ?_
 clear h x1 y1
 rintro e w ⟨rfl,h⟩
 have x1:=h.out.1.c0
 have y1:=h.out.1.c1
 go_wp2_with fail
 go_ret
 exact⟨rfl,h.out.2⟩
theorem SVec_is {a1 b1:Option Addr} {n1 c1 m1 d1:Nat} {l:List Int} {es:List ByteArray} {W:World} {o:Option Ar} (h1:Av W a1 n1 c1 b1 m1 d1 l es o):Calls Tryz.prog 105 #[.agg #[.slice a1 n1 c1,.slice b1 m1 d1]] W (IntEnd (vcE o) W):=by
 cases o with
 |none=>exact SVec_no h1
 |some q=>
  have hl:q.1.length=n1:=by rw[h1.fst];exact h1.v.s.1
  by_cases h:n1=1
  · have e:vcE (some q)=0:=by unfold vcE;dsimp only;rw[if_neg (by omega)]
    rw[e];exact SVec_0 h1 h
  · have e:vcE (some q)=3:=by unfold vcE;dsimp only;rw[if_pos (by omega)]
    rw[e];exact SVec_3 h1 h
theorem SPl_far {a1 b1:Option Addr} {n1 c1 m1 d1:Nat} {l:List Int} {es:List ByteArray} {W:World} {q:Ar} {many:Int} (h1:Av W a1 n1 c1 b1 m1 d1 l es (some q)) (hW:WT W) (hal:q.2.all nearM=false):
 Calls Tryz.prog 124 #[.agg #[.slice a1 n1 c1,.slice b1 m1 d1],.int .i64 many] W (PlO q many W):=by
 have KA:=Lib.hid (fun w (hb:Below W.heap.size W w)=>All_av (c:=c1) (d:=d1) (s:=l) w (by have:=h1.v;rw[h1.i.2.1]at this;exact this.below hb) h1.i.2.2.2 (by have:=h1.mlen.2.2;omega) (hW.below hb))
 have HE:=Lib.hid (pl_far (many:=many) hal)
 have hal2:=Lib.hid hal
 clear h1 hW hal
 have h:=live10 W a1 n1 c1 b1 m1 d1
 go_enter Tryz.func124,Tryz.ntmps124
 have x1:=h.out.1.c0
 have y1:=h.out.1.c1
 go_wp2_with fail
 refine(live_al h (KA.out _ h.out.2)).mono ?_
 clear h x1 y1
 rintro e w ⟨aa,na,ca,z,rfl,hz,h⟩
 have hz5:z=5:=by
  rcases hz with⟨g,_⟩|⟨_,g⟩
  · rw[hal2.out]at g;cases g
  · exact g
 subst hz5
 clear hz
 go_wp2_with fail
 go_ret2
 exact⟨none,0,0,by rw[HE.out];rfl,(fun h=>by rw[HE.out]at h;cases h),h.out.2⟩
theorem SPl_yes {a1 b1:Option Addr} {n1 c1 m1 d1:Nat} {l:List Int} {es:List ByteArray} {W:World} {q:Ar} {many:Int} (h1:Av W a1 n1 c1 b1 m1 d1 l es (some q)) (hW:WT W) (hal:q.2.all nearM=true):
 Calls Tryz.prog 124 #[.agg #[.slice a1 n1 c1,.slice b1 m1 d1],.int .i64 many] W (PlO q many W):=by
 have KA:=Lib.hid (fun w (hb:Below W.heap.size W w)=>All_av (c:=c1) (d:=d1) (s:=l) w (by have:=h1.v;rw[h1.i.2.1]at this;exact this.below hb) h1.i.2.2.2 (by have:=h1.mlen.2.2;omega) (hW.below hb))
 have HL:=Lib.hid h1.mlen.1.symm
 have hm4:=h1.mlen.2.2
 have hal2:=Lib.hid hal
 clear h1 hW hal
 have h:=live10 W a1 n1 c1 b1 m1 d1
 go_enter Tryz.func124,Tryz.ntmps124
 have x1:=h.out.1.c0
 have y1:=h.out.1.c1
 go_wp2_with fail
 refine(live_al h (KA.out _ h.out.2)).mono ?_
 clear h x1 y1
 rintro e w ⟨aa,na,ca,z,rfl,hz,h⟩
 obtain⟨rfl,hna,hS⟩:z=0∧na=m1∧Sl w aa na q.2∧na≤ca∧ca≤maxLen:=by
  rcases hz with⟨_,g1,g2,g3,g4,g5⟩|⟨g,_⟩
  · exact⟨g1,g2.trans HL.out,g3,g4,g5⟩
  · rw[hal2.out]at g;cases g
 subst hna
 have HS:=Lib.hid hS
 clear hz hS KA
 go_wp2_with fail
 go_loop [20] (fun iv=>∃k:Nat,iv=.int .i64 (k:Int)∧k≤na∧Hid (∀j,j<k→¬(q.2.getD j 0<0∨many≤q.2.getD j 0))) (fun iv=>na-(intOf iv).toNat)
 case atStart=>exact⟨0,rfl,Nat.zero_le _,Lib.hid fun j hj=>by omega⟩
 case round=>
  obtain⟨k,rfl,hk,HN⟩:=hrel
  by_cases hlt:k<na
  · have e2:(k:Int)<(na:Int):=by omega
    obtain⟨bb,off,rfl,hc⟩:=HS.out.1.2 (by omega)
    have hck:=hc k hlt
    have hg:=fun h2=>pl_bad (many:=many) hal2.out (j:=k) (by rw[HL.out];exact hlt) h2
    obtain⟨x,hx⟩:∃x,x=q.2.getD k 0:=⟨_,rfl⟩
    rw[←hx]at hck hg
    have HXX:=Lib.hid hx
    clear hc hx
    by_cases h0:x<0
    · have HE:=Lib.hid (hg (.inl h0))
      clear hg
      go_wp2_with fail
      go_ret2
      exact⟨none,0,0,by rw[HE.out];rfl,(fun h=>by rw[HE.out]at h;cases h),h.out.2⟩
    · by_cases h2:many≤x
      · have HE:=Lib.hid (hg (.inr h2))
        clear hg
        go_wp2_with fail
        go_ret2
        exact⟨none,0,0,by rw[HE.out];rfl,(fun h=>by rw[HE.out]at h;cases h),h.out.2⟩
      · clear hg
        go_wp2_with fail
        go_round
        case rel=>exact⟨k+1,by go_num,by omega,Lib.hid fun j hj=>by
         by_cases e:j=k
         · rw[e,←HXX.out];exact fun h=>h.elim h0 h2
         · exact HN.out j (by omega)⟩
        case measure=>simp[intOf];omega
  · have e2:¬(k:Int)<(na:Int):=by omega
    obtain rfl:k=na:=by omega
    have HE:=Lib.hid (pl_all (many:=many) hal2.out fun j hj=>HN.out j (by rw[HL.out]at hj;exact hj))
    go_wp2_with fail
    go_ret2
    exact⟨aa,k,ca,by rw[HE.out];rfl,(fun _=>⟨HL.out.symm,HS.out⟩),h.out.2⟩
theorem SPlaces_is {a1 b1:Option Addr} {n1 c1 m1 d1:Nat} {l:List Int} {es:List ByteArray} {W:World} {q:Ar} (many:Int) (h1:Av W a1 n1 c1 b1 m1 d1 l es (some q)) (hW:WT W):Calls Tryz.prog 124 #[.agg #[.slice a1 n1 c1,.slice b1 m1 d1],.int .i64 many] W (PlO q many W):=by
 rcases Bool.eq_false_or_eq_true (q.2.all nearM)with ha|ha
 · exact SPl_yes h1 hW ha
 · exact SPl_far h1 hW ha
theorem SFirsts_is (a:Option Addr) (n c:Nat) (es:List ByteArray) (W:World) (h:St W a n es) (hz:∀j,j<n→(es.getD j ByteArray.empty).size≤maxLen) (hn:n≤100000):
 Calls Tryz.prog 108 #[.slice a n c] W (FsEnd es W):=by
 have hmm:=@run_makeMap Tryz.prog
 have HS:=Lib.hid h
 have HL:=Lib.hid h.1
 have HZ:=Lib.hid hz
 have hb0:=Lib.hid ((Below.refl W.heap.size W).alloc (Nat.le_refl _) (.map #[] 0))
 have ho0:=Lib.hid (World.ownsMap_made (H:=Unit) W Tryz.prog 9 (plainElem Tryz.prog 3))
 clear h hz
 go_enter Tryz.func108,Tryz.ntmps108
 go_wp2_with fail
 go_loopw [11] (fun iv wr=>∃(i:Nat) (D:DataW Unit),iv=.int .i64 (i:Int)∧i≤n∧wr.ownsMap Tryz.prog 9 (plainElem Tryz.prog 3) W.heap.size i D∧Hid (FstD D (es.take i))∧Below W.heap.size W wr) (fun iv _=>n-(intOf iv).toNat)
 case atStart=>exact⟨0,_,rfl,Nat.zero_le _,ho0.out,Lib.hid FstD.nil,hb0.out⟩
 case round=>
  obtain⟨i,D,rfl,hi,hown,HD,hb⟩:=hrel
  by_cases hlt:i<n
  · have e2:(i:Int)<(n:Int):=by omega
    obtain⟨bb,off,rfl,hc⟩:=HS.out.2 (by omega)
    have hck:=(hb.cell (p:=⟨bb,off+i,none⟩) (World.block_lt_of_cell? W _ (hc i hlt))).trans (hc i hlt)
    obtain⟨s,hs⟩:∃s,s=es.getD i ByteArray.empty:=⟨_,rfl⟩
    have hsz:=HZ.out i hlt
    rw[←hs]at hck hsz
    have hkey:keyOf Tryz.prog 9 (.string s)=some (.string s.data.toList):=Go.WideMaps.keyOf_string_mk Tryz.underlying9 hsz
    have HT:Hid (es.take (i+1)=es.take i++[s]):=Lib.hid (by
     rw[List.take_succ_eq_append_getElem (by rw[HL.out];exact hlt),hs,List.getD_eq_getElem?_getD,List.getElem?_eq_getElem (by rw[HL.out];exact hlt)];rfl)
    have HOw:=Lib.hid hown
    have HBl:=Lib.hid hb
    have htl:(es.take i).length=i:=by rw[List.length_take,HL.out];omega
    have HTL:=Lib.hid htl
    clear hc hs hsz htl hb hown
    by_cases hin:s∈es.take i
    · have hh:Maps.has D (.string s.data.toList)=true:=HD.out.yes hin
      have HIN:=Lib.hid hin
      clear hin
      go_wp2_with (first|(at_lookup;refine wpList_lookup_own_ok_int _ rfl _ _ 102 rfl 9 3 .i64 fkeyed Tryz.underlying102 Tryz.underlying3 (fzero _) W.heap.size i D rfl HOw.out _ _ rfl hkey ?_;intro cc hat hwc)|fail)
      go_roundw
      case rel=>exact⟨i+1,D,by go_num,by omega,HOw.out.mono (Nat.le_succ i),Lib.hid (by rw[HT.out];exact HD.out.old HIN.out),HBl.out⟩
      case measure=>simp[intOf];omega
    · have hh:Maps.has D (.string s.data.toList)=false:=HD.out.no hin
      have HIN:=Lib.hid hin
      clear hin
      have HP:=Lib.hid (plainElem_int (H:=Unit) (P:=Tryz.prog) (e:=3) (q:=.i64) Tryz.underlying3 (a:=(i:Int)) (WalkArith.wf_i64 (by omega)))
      go_wp2_with (first|(at_lookup;refine wpList_lookup_own_ok_int _ rfl _ _ 102 rfl 9 3 .i64 fkeyed Tryz.underlying102 Tryz.underlying3 (fzero _) W.heap.size i D rfl HOw.out _ _ rfl hkey ?_;intro cc hat hwc)|(at_mapUpdate;refine wpList_mapUpdate_own _ rfl _ _ _ 102 rfl 9 3 fkeyed Tryz.underlying102 _ W.heap.size i D rfl HOw.out (by unfold maxLen;omega) _ _ _ rfl rfl hkey _ [] HP.out ?_;intro w1 hown1 hgrow1)|fail)
      have hb1:=HBl.out.grown hgrow1 HBl.out.size (fun j hj=>by cases hj;exact Nat.le_refl _)
      have HD1:=HD.out.new (HOw.out.isMap) HIN.out
      rw[HTL.out,←HT.out]at HD1
      have HD2:=Lib.hid HD1
      clear hgrow1 HD1
      go_wp2_with fail
      go_roundw
      case rel=>exact⟨i+1,_,by go_num,by omega,hown1,HD2,hb1⟩
      case measure=>simp[intOf];omega
  · have e2:¬(i:Int)<(n:Int):=by omega
    obtain rfl:i=n:=by omega
    have HF:Hid (Fst wr W.heap.size i es):=Lib.hid ⟨D,hown,by have:=HD.out;rwa [List.take_of_length_le (by rw[HL.out];exact Nat.le_refl _)]at this⟩
    have HBl:=Lib.hid hb
    clear hown hb
    go_wp2_with fail
    go_ret
    exact⟨_,rfl,by rw[HL.out];exact HF.out,HBl.out⟩
end Go.Proofs.YtcfbjdplhgdpfaaGreatDoor

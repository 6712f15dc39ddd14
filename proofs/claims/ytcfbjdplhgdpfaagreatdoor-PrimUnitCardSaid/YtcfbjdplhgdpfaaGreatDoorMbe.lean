import Derived.Test.YtcfbjdplhgdpfaaGreatDoorMbd
set_option maxHeartbeats 3200000
set_option maxRecDepth 100000
namespace Go.Proofs.YtcfbjdplhgdpfaaGreatDoor
set_option linter.unusedVariables false
set_option linter.unusedSimpArgs false
open Go.RowKit
theorem live_to {P:World→Prop} {w w':World} (h:Lv P w) (hb:Below w.heap.size w w')
 (hs:Stb P:=by repeat' (first|exact Stb.bel _|exact Stb.bx|exact Stb.vl|refine Stb.and ?_ ?_|exact Stb.triv)):Lv P w':=⟨hs _ _ h.out hb⟩
theorem io_no {a1 b1:Option Addr} {n1 c1 m1 d1:Nat} {l:List Int} {es:List ByteArray} {W:World} (h1:Av W a1 n1 c1 b1 m1 d1 l es none):
 Calls Tryz.prog 46 #[.agg #[.slice a1 n1 c1,.slice b1 m1 d1]] W (MEnd (none,1) W):=by
 have KV:=Lib.hid (fun w (hb:Below W.heap.size W w)=>VMay_av (h1.below hb))
 clear h1
 have h:=live1 W a1 n1 c1 b1 m1 d1
 go_enter Tryz.func46,Tryz.ntmps46
 have x1:=h.out.2.1.c0
 have y1:=h.out.2.1.c1
 go_wp2_with fail
 with_reducible refine(live h (KV.out _ h.out.2.2)).mono ?_
 clear h x1 y1
 rintro e w ⟨rfl,h⟩
 have y0:=h.out.1.c0
 have y3:=h.out.1.c1
 have f0:=h.out.1.f 0
 have f1:=h.out.1.f 1
 go_wp2_with fail
 have hR:=h.out.1.set none 0 0 none 0 0
 have r0:=hR.c0
 have r1:=hR.c1
 exact bodyPost_ret (v:=.tuple #[.agg #[.slice none 0 0,.slice none 0 0],.int .i64 1]) (by simp[results,Tryz.results46,go_sem,r0,r1]) rfl (mend_no h.out.1 h.out.2.2 (by omega))
theorem io_err {a1 b1:Option Addr} {n1 c1 m1 d1:Nat} {l:List Int} {es:List ByteArray} {W:World} {q:Ar} (h1:Av W a1 n1 c1 b1 m1 d1 l es (some q)) (hW:WT W) (he:(inM q).2≠0):
 Calls Tryz.prog 46 #[.agg #[.slice a1 n1 c1,.slice b1 m1 d1]] W (MEnd (none,(inM q).2) W):=by
 have KV:=Lib.hid (fun w (hb:Below W.heap.size W w)=>VMay_av (h1.below hb))
 have KI:=Lib.hid (fun w (hb:Below W.heap.size W w)=>VInt_av (h1.below hb) (hW.below hb))
 clear h1 hW
 generalize (inM q).1=x at*
 generalize (inM q).2=k at*
 have hk:(k != 0)=true:=by simpa using he
 have h:=live1 W a1 n1 c1 b1 m1 d1
 go_enter Tryz.func46,Tryz.ntmps46
 have x1:=h.out.2.1.c0
 have y1:=h.out.2.1.c1
 go_wp2_with fail
 with_reducible refine(live h (KV.out _ h.out.2.2)).mono ?_
 clear h x1 y1
 rintro e w ⟨rfl,h⟩
 have x1:=h.out.2.1.c0
 have y1:=h.out.2.1.c1
 go_wp2_with fail
 with_reducible refine(live h (KI.out _ h.out.2.2)).mono ?_
 clear h x1 y1
 rintro e w ⟨rfl,h⟩
 have y0:=h.out.1.c0
 have y3:=h.out.1.c1
 have f0:=h.out.1.f 0
 have f1:=h.out.1.f 1
 go_wp2_with fail
 have hR:=h.out.1.set none 0 0 none 0 0
 have r0:=hR.c0
 have r1:=hR.c1
 exact bodyPost_ret (v:=.tuple #[.agg #[.slice none 0 0,.slice none 0 0],.int .i64 k]) (by simp[results,Tryz.results46,go_sem,r0,r1]) rfl (mend_no h.out.1 h.out.2.2 (by omega))
theorem io_low {a1 b1:Option Addr} {n1 c1 m1 d1:Nat} {l:List Int} {es:List ByteArray} {W:World} {q:Ar} (h1:Av W a1 n1 c1 b1 m1 d1 l es (some q)) (hW:WT W) (he:(inM q).2=0) (hx:(inM q).1<0):
 Calls Tryz.prog 46 #[.agg #[.slice a1 n1 c1,.slice b1 m1 d1]] W (MEnd (none,5) W):=by
 have KV:=Lib.hid (fun w (hb:Below W.heap.size W w)=>VMay_av (h1.below hb))
 have KI:=Lib.hid (fun w (hb:Below W.heap.size W w)=>VInt_av (h1.below hb) (hW.below hb))
 rw[he]at KI
 clear h1 hW he
 generalize (inM q).1=x at*
 have h:=live1 W a1 n1 c1 b1 m1 d1
 go_enter Tryz.func46,Tryz.ntmps46
 have x1:=h.out.2.1.c0
 have y1:=h.out.2.1.c1
 go_wp2_with fail
 with_reducible refine(live h (KV.out _ h.out.2.2)).mono ?_
 clear h x1 y1
 rintro e w ⟨rfl,h⟩
 have x1:=h.out.2.1.c0
 have y1:=h.out.2.1.c1
 go_wp2_with fail
 with_reducible refine(live h (KI.out _ h.out.2.2)).mono ?_
 clear h x1 y1
 rintro e w ⟨rfl,h⟩
 have y0:=h.out.1.c0
 have y3:=h.out.1.c1
 have f0:=h.out.1.f 0
 have f1:=h.out.1.f 1
 go_wp2_with fail
 have hR:=h.out.1.set none 0 0 none 0 0
 have r0:=hR.c0
 have r1:=hR.c1
 exact bodyPost_ret (v:=.tuple #[.agg #[.slice none 0 0,.slice none 0 0],.int .i64 5]) (by simp[results,Tryz.results46,go_sem,r0,r1]) rfl (mend_no h.out.1 h.out.2.2 (by omega))
theorem io_big {a1 b1:Option Addr} {n1 c1 m1 d1:Nat} {l:List Int} {es:List ByteArray} {W:World} {q:Ar} (h1:Av W a1 n1 c1 b1 m1 d1 l es (some q)) (hW:WT W) (he:(inM q).2=0) (hx:4096<(inM q).1):
 Calls Tryz.prog 46 #[.agg #[.slice a1 n1 c1,.slice b1 m1 d1]] W (MEnd (none,8) W):=by
 have KV:=Lib.hid (fun w (hb:Below W.heap.size W w)=>VMay_av (h1.below hb))
 have KI:=Lib.hid (fun w (hb:Below W.heap.size W w)=>VInt_av (h1.below hb) (hW.below hb))
 rw[he]at KI
 clear h1 hW he
 generalize (inM q).1=x at*
 have h0:¬(x<0):=by omega
 have h:=live1 W a1 n1 c1 b1 m1 d1
 go_enter Tryz.func46,Tryz.ntmps46
 have x1:=h.out.2.1.c0
 have y1:=h.out.2.1.c1
 go_wp2_with fail
 with_reducible refine(live h (KV.out _ h.out.2.2)).mono ?_
 clear h x1 y1
 rintro e w ⟨rfl,h⟩
 have x1:=h.out.2.1.c0
 have y1:=h.out.2.1.c1
 go_wp2_with fail
 with_reducible refine(live h (KI.out _ h.out.2.2)).mono ?_
 clear h x1 y1
 rintro e w ⟨rfl,h⟩
 have y0:=h.out.1.c0
 have y3:=h.out.1.c1
 have f0:=h.out.1.f 0
 have f1:=h.out.1.f 1
 go_wp2_with fail
 have hR:=h.out.1.set none 0 0 none 0 0
 have r0:=hR.c0
 have r1:=hR.c1
 exact bodyPost_ret (v:=.tuple #[.agg #[.slice none 0 0,.slice none 0 0],.int .i64 8]) (by simp[results,Tryz.results46,go_sem,r0,r1]) rfl (mend_no h.out.1 h.out.2.2 (by omega))
theorem up_len (t:Nat):(upM t).length=t:=by simp[upM]
theorem up_at {t j:Nat} (h:j<t):(upM t).getD j 0=(j:Int):=by simp[upM,List.getD_eq_getElem?_getD,List.getElem?_range h]
theorem up_succ (k:Nat):valsI (upM (k+1))=valsI (upM k)++valsI [(k:Int)]:=by simp[upM,valsI,List.range_succ]
theorem vec_rok {t:Nat} {xs:List Int} (ht:t≤4096) (hl:xs.length=t) (hb:∀x∈xs,x.natAbs<lim):Rok (some ([(t:Int)],xs)):=by
 refine⟨szE_may.2 ⟨by simp,fun j hj=> ?_,fun j hj=> ?_,?_⟩,by show(xs.length:Int)=(t:Int)*1;omega,hb⟩
 · obtain rfl:j=0:=by simpa using hj
   show(0:Int)≤(t:Int);omega
 · obtain rfl:j=0:=by simpa using hj
   show(t:Int)≤1099511627776;omega
 · show(t:Int)*1≤4096;omega
theorem small_rok {x:Int} (h:x.natAbs<10000000000000000000000):x.natAbs<lim:=Nat.lt_of_lt_of_le h lim_big
theorem up_rok {t:Nat} (h:t≤4096):Rok (some ([(t:Int)],upM t)):=vec_rok h (up_len t) fun x hx=>by
 obtain⟨j,hj,rfl⟩:=List.mem_map.1 hx
 have:=List.mem_range.1 hj
 exact small_rok (by omega)
theorem io_yes {a1 b1:Option Addr} {n1 c1 m1 d1:Nat} {l:List Int} {es:List ByteArray} {W:World} {q:Ar} {t:Nat} (h1:Av W a1 n1 c1 b1 m1 d1 l es (some q)) (hW:WT W) (he:inM q=((t:Int),0)) (ht:t≤4096):
 Calls Tryz.prog 46 #[.agg #[.slice a1 n1 c1,.slice b1 m1 d1]] W (MEnd (some ([(t:Int)],upM t),0) W):=by
 have KV:=Lib.hid (fun w (hb:Below W.heap.size W w)=>VMay_av (h1.below hb))
 have KI:=Lib.hid (fun w (hb:Below W.heap.size W w)=>VInt_av (h1.below hb) (hW.below hb))
 rw[he]at KI
 have KN:=Lib.hid (fun w (hb:Below W.heap.size W w) a c (hs:Sl w a t (upM t))=>Ints_pt a t c (upM t) w hs (fun j hj=>by rw[up_at hj];unfold I64;omega) (by omega) (hW.below hb))
 have HR:=Lib.hid (up_rok ht)
 have hx0:¬((t:Int)<0):=by omega
 have hx1:¬((4096:Int)<(t:Int)):=by omega
 clear h1 hW he
 have h:=live1 W a1 n1 c1 b1 m1 d1
 go_enter Tryz.func46,Tryz.ntmps46
 have x1:=h.out.2.1.c0
 have y1:=h.out.2.1.c1
 go_wp2_with fail
 with_reducible refine(live h (KV.out _ h.out.2.2)).mono ?_
 clear h x1 y1
 rintro e w ⟨rfl,h⟩
 have x1:=h.out.2.1.c0
 have y1:=h.out.2.1.c1
 go_wp2_with fail
 with_reducible refine(live h (KI.out _ h.out.2.2)).mono ?_
 clear h x1 y1
 rintro e w ⟨rfl,h⟩
 go_wp2_with fail
 go_loopw [6,31] (fun lv i wr=>∃k:Nat,i=.int .i64 k∧k≤t∧wr.ownsRow w.heap.size 3 1 lv k (valsI (upM k))∧Below w.heap.size w wr) (fun _ i _=>t-(intOf i).toNat)
 case atStart=>exact⟨0,rfl,Nat.zero_le _,World.ownsRow_nil _ _ _ _,Below.refl _ _⟩
 case round=>
  obtain⟨k,rfl,hk,hown,hbq⟩:=hrel
  by_cases hlt:k<t
  · have e2:(k:Int)<(t:Int):=by omega
    have ho2:=Lib.hid (hown.alloc (.cells #[.int .i64 (k:Int)] 3))
    have hr2:=Lib.hid (own_rd (own_new1 wr (k:Int)))
    have hbs:=hbq.size
    have HB:=Lib.hid hbq
    clear hown hbq
    go_wp2_with (at_builtin;refine wpList_append_rd rfl (.tmp 34) (.tmp 36) 22 rfl w.heap.size 3 (.int .i64 0) 8 Tryz.underlying22 infoInt1 rfl (by decide) _ k (valsI (upM k)) rfl ho2.out _ 1 1 (valsI [(k:Int)]) rfl hr2.out (valsI_one _) (by omega) (by simp;omega) ?_;intro av' cv' w3 hown3 hg3)
    have hb4:Below w.heap.size w w3:=(HB.out.alloc HB.out.size _).trans (grown_below' hg3 (fun g' hg'=>(ho2.out.lt g' hg').1) (by simp;omega))
    rw[←up_succ]at hown3
    clear hg3 ho2 hr2
    go_wp2_with fail
    go_roundw
    case rel=>exact⟨k+1,by go_num,by omega,hown3,hb4⟩
    case measure=>simp[intOf];omega
  · have e2:¬(k:Int)<(t:Int):=by omega
    obtain rfl:k=t:=by omega
    obtain⟨ae,ce,rfl⟩:=own_form hown
    replace h:=live_to h hbq
    have HS:=Lib.hid (own_sl hown)
    clear hown hbq
    have y0:=h.out.1.c0
    have y3:=h.out.1.c1
    have f0:=h.out.1.f 0
    have f1:=h.out.1.f 1
    go_wp2_with fail
    with_reducible refine(live_pt h (KN.out _ h.out.2.2 _ _ HS.out)).mono ?_
    clear h y0 y3 f0 f1
    rintro e w ⟨ar,nr,cr,br,mr,dr,rfl,h,hv,hc⟩
    have y0:=h.out.1.c0
    have y3:=h.out.1.c1
    have f0:=h.out.1.f 0
    have f1:=h.out.1.f 1
    go_wp2_with fail
    have hR:=h.out.1.set ar nr cr br mr dr
    have r0:=hR.c0
    have r1:=hR.c1
    exact bodyPost_ret (v:=.tuple #[.agg #[.slice ar nr cr,.slice br mr dr],.int .i64 0]) (by simp[results,Tryz.results46,go_sem,r0,r1]) rfl (mend_box (r:=_) h.out.1 h.out.2.2 (by omega) hv hc HR.out)
theorem MIota_is {a1 b1:Option Addr} {n1 c1 m1 d1:Nat} {l:List Int} {es:List ByteArray} {W:World} {o:Option Ar} (h1:Av W a1 n1 c1 b1 m1 d1 l es o) (hW:WT W):Calls Tryz.prog 46 #[.agg #[.slice a1 n1 c1,.slice b1 m1 d1]] W (MEnd (ioM o) W):=by
 cases o with
 |none=>exact io_no h1
 |some q=>
  by_cases he:(inM q).2=0
  · by_cases h0:(inM q).1<0
    · have e:ioM (some q)=(none,5):=by unfold ioM;dsimp only;rw[if_neg (fun h=>h he),if_pos h0]
      rw[e];exact io_low h1 hW he h0
    · by_cases h4:4096<(inM q).1
      · have e:ioM (some q)=(none,8):=by unfold ioM;dsimp only;rw[if_neg (fun h=>h he),if_neg h0,if_pos h4]
        rw[e];exact io_big h1 hW he h4
      · obtain⟨t,ht⟩:∃t:Nat,(inM q).1=(t:Int):=⟨(inM q).1.toNat,by omega⟩
        have e:ioM (some q)=(some ([(t:Int)],upM t),0):=by
         unfold ioM;dsimp only;rw[if_neg (fun h=>h he),if_neg h0,if_neg h4,ht,Int.toNat_natCast]
        rw[e];exact io_yes h1 hW (Prod.ext ht he) (by omega)
  · have e:ioM (some q)=(none,(inM q).2):=by unfold ioM;dsimp only;rw[if_pos he]
    rw[e];exact io_err h1 hW he
theorem Itoa_is (n:Int) (h0: -9223372036854775808≤n) (h1:n≤9223372036854775807) (w:World) (htab:Tab w):Calls Tryz.prog 95 #[.int .i64 n] w fun e w'=>e=.returned (.string (S n))∧Below w.heap.size w w':=
 (Tryz.strconv_Itoa n h0 h1 w htab.is).mono fun e w' ⟨he,k,os,hw⟩=>⟨he,by rw[hw];exact Lib.below_grow _ w (Nat.le_refl _) k os⟩
theorem ta_no {a1 b1:Option Addr} {n1 c1 m1 d1:Nat} {l:List Int} {es:List ByteArray} {W:World} (h1:Av W a1 n1 c1 b1 m1 d1 l es none):
 Calls Tryz.prog 47 #[.agg #[.slice a1 n1 c1,.slice b1 m1 d1]] W (MEnd (none,1) W):=by
 have KV:=Lib.hid (fun w (hb:Below W.heap.size W w)=>VMay_av (h1.below hb))
 clear h1
 have h:=live1 W a1 n1 c1 b1 m1 d1
 go_enter Tryz.func47,Tryz.ntmps47
 have x1:=h.out.2.1.c0
 have y1:=h.out.2.1.c1
 go_wp2_with fail
 with_reducible refine(live h (KV.out _ h.out.2.2)).mono ?_
 clear h x1 y1
 rintro e w ⟨rfl,h⟩
 have y0:=h.out.1.c0
 have y3:=h.out.1.c1
 have f0:=h.out.1.f 0
 have f1:=h.out.1.f 1
 go_wp2_with fail
 have hR:=h.out.1.set none 0 0 none 0 0
 have r0:=hR.c0
 have r1:=hR.c1
 exact bodyPost_ret (v:=.tuple #[.agg #[.slice none 0 0,.slice none 0 0],.int .i64 1]) (by simp[results,Tryz.results47,go_sem,r0,r1]) rfl (mend_no h.out.1 h.out.2.2 (by omega))
theorem ta_yes {a1 b1:Option Addr} {n1 c1 m1 d1:Nat} {l:List Int} {es:List ByteArray} {W:World} {q:Ar} (h1:Av W a1 n1 c1 b1 m1 d1 l es (some q)) (hW:WT W):
 Calls Tryz.prog 47 #[.agg #[.slice a1 n1 c1,.slice b1 m1 d1]] W (MEnd (some ([],[(mN l:Int)]),0) W):=by
 have KV:=Lib.hid (fun w (hb:Below W.heap.size W w)=>VMay_av (h1.below hb))
 have hb:=h1.items.2.2.1
 have KM:=Lib.hid (fun w (hb:Below W.heap.size W w)=>VMany_av (h1.below hb))
 have KT:=Lib.hid (fun w (hb:Below W.heap.size W w)=>Itoa_is (mN l:Int) (by omega) (by omega) w (hW.below hb).tab)
 have KN:=Lib.hid (fun w=>Scalar_pt (S (mN l:Int)) w)
 have HR:Hid (Rok (some ([],[(mN l:Int)]))):=Lib.hid ⟨(by decide:szE []=0),(rfl:((1:Nat):Int)=pr []),fun x hx=>by
  rw[List.mem_singleton]at hx
  exact Nat.lt_of_lt_of_le (show x.natAbs<10000000000000000000000 by omega) lim_big⟩
 clear h1 hW hb
 generalize mN l=N at*
 have h:=live1 W a1 n1 c1 b1 m1 d1
 go_enter Tryz.func47,Tryz.ntmps47
 have x1:=h.out.2.1.c0
 have y1:=h.out.2.1.c1
 go_wp2_with fail
 with_reducible refine(live h (KV.out _ h.out.2.2)).mono ?_
 clear h x1 y1
 rintro e w ⟨rfl,h⟩
 have x1:=h.out.2.1.c0
 have y1:=h.out.2.1.c1
 go_wp2_with fail
 with_reducible refine(live h (KM.out _ h.out.2.2)).mono ?_
 clear h x1 y1
 rintro e w ⟨rfl,h⟩
 go_wp2_with fail
 with_reducible refine(live h (KT.out _ h.out.2.2)).mono ?_
 clear h
 rintro e w ⟨rfl,h⟩
 have y0:=h.out.1.c0
 have y3:=h.out.1.c1
 have f0:=h.out.1.f 0
 have f1:=h.out.1.f 1
 go_wp2_with fail
 with_reducible refine(live_pt h (KN.out _)).mono ?_
 clear h y0 y3 f0 f1
 rintro e w ⟨ar,nr,cr,br,mr,dr,rfl,h,hv,hc⟩
 have y0:=h.out.1.c0
 have y3:=h.out.1.c1
 have f0:=h.out.1.f 0
 have f1:=h.out.1.f 1
 go_wp2_with fail
 have hR:=h.out.1.set ar nr cr br mr dr
 have r0:=hR.c0
 have r1:=hR.c1
 exact bodyPost_ret (v:=.tuple #[.agg #[.slice ar nr cr,.slice br mr dr],.int .i64 0]) (by simp[results,Tryz.results47,go_sem,r0,r1]) rfl (mend_box (r:=_) h.out.1 h.out.2.2 (by omega) hv hc HR.out)
theorem MTally_is {a1 b1:Option Addr} {n1 c1 m1 d1:Nat} {l:List Int} {es:List ByteArray} {W:World} {o:Option Ar} (h1:Av W a1 n1 c1 b1 m1 d1 l es o) (hW:WT W):Calls Tryz.prog 47 #[.agg #[.slice a1 n1 c1,.slice b1 m1 d1]] W (MEnd (taM o) W):=by
 cases o with
 |none=>exact ta_no h1
 |some q=>
  have e:taM (some q)=(some ([],[(mN l:Int)]),0):=by rw[h1.items.2.1,←h1.fst];rfl
  rw[e];exact ta_yes h1 hW
theorem sh_no {a1 b1:Option Addr} {n1 c1 m1 d1:Nat} {l:List Int} {es:List ByteArray} {W:World} (h1:Av W a1 n1 c1 b1 m1 d1 l es none):
 Calls Tryz.prog 48 #[.agg #[.slice a1 n1 c1,.slice b1 m1 d1]] W (MEnd (none,1) W):=by
 have KV:=Lib.hid (fun w (hb:Below W.heap.size W w)=>VMay_av (h1.below hb))
 clear h1
 have h:=live1 W a1 n1 c1 b1 m1 d1
 go_enter Tryz.func48,Tryz.ntmps48
 have x1:=h.out.2.1.c0
 have y1:=h.out.2.1.c1
 go_wp2_with fail
 with_reducible refine(live h (KV.out _ h.out.2.2)).mono ?_
 clear h x1 y1
 rintro e w ⟨rfl,h⟩
 have y0:=h.out.1.c0
 have y3:=h.out.1.c1
 have f0:=h.out.1.f 0
 have f1:=h.out.1.f 1
 go_wp2_with fail
 have hR:=h.out.1.set none 0 0 none 0 0
 have r0:=hR.c0
 have r1:=hR.c1
 exact bodyPost_ret (v:=.tuple #[.agg #[.slice none 0 0,.slice none 0 0],.int .i64 1]) (by simp[results,Tryz.results48,go_sem,r0,r1]) rfl (mend_no h.out.1 h.out.2.2 (by omega))
theorem sh_yes {a1 b1:Option Addr} {n1 c1 m1 d1:Nat} {l:List Int} {es:List ByteArray} {W:World} {q:Ar} (h1:Av W a1 n1 c1 b1 m1 d1 l es (some q)) (hW:WT W):
 Calls Tryz.prog 48 #[.agg #[.slice a1 n1 c1,.slice b1 m1 d1]] W (MEnd (some ([(n1:Int)],l),0) W):=by
 have KV:=Lib.hid (fun w (hb:Below W.heap.size W w)=>VMay_av (h1.below hb))
 have hmay:=szE_may.1 h1.sz
 have hl:=h1.v.s.1
 have KN:=Lib.hid (fun w (hb:Below W.heap.size W w)=>Ints_pt a1 n1 c1 l w (h1.v.s.below hb) (fun j hj=>by have:=hmay.nn j (by omega);have:=hmay.le j (by omega);unfold I64;omega) (by have:=h1.n3;omega) (hW.below hb))
 have HR:=Lib.hid (vec_rok (t:=n1) (xs:=l) (by have:=h1.n3;omega) hl fun x hx=>by
  obtain⟨j,hj,rfl⟩:=List.getElem_of_mem hx
  have e1:=hmay.nn j hj
  have e2:=hmay.le j hj
  rw[List.getD_eq_getElem?_getD,List.getElem?_eq_getElem hj,Option.getD_some]at e1 e2
  exact small_rok (by omega))
 clear h1 hW hmay hl
 have h:=live1 W a1 n1 c1 b1 m1 d1
 go_enter Tryz.func48,Tryz.ntmps48
 have x1:=h.out.2.1.c0
 have y1:=h.out.2.1.c1
 go_wp2_with fail
 with_reducible refine(live h (KV.out _ h.out.2.2)).mono ?_
 clear h x1 y1
 rintro e w ⟨rfl,h⟩
 have x1:=h.out.2.1.c0
 have y1:=h.out.2.1.c1
 have y0:=h.out.1.c0
 have y3:=h.out.1.c1
 have f0:=h.out.1.f 0
 have f1:=h.out.1.f 1
 go_wp2_with fail
 with_reducible refine(live_pt h (KN.out _ h.out.2.2)).mono ?_
 clear h y0 y3 f0 f1 x1 y1
 rintro e w ⟨ar,nr,cr,br,mr,dr,rfl,h,hv,hc⟩
 have y0:=h.out.1.c0
 have y3:=h.out.1.c1
 have f0:=h.out.1.f 0
 have f1:=h.out.1.f 1
 go_wp2_with fail
 have hR:=h.out.1.set ar nr cr br mr dr
 have r0:=hR.c0
 have r1:=hR.c1
 exact bodyPost_ret (v:=.tuple #[.agg #[.slice ar nr cr,.slice br mr dr],.int .i64 0]) (by simp[results,Tryz.results48,go_sem,r0,r1]) rfl (mend_box (r:=_) h.out.1 h.out.2.2 (by omega) hv hc HR.out)
theorem MShape_is {a1 b1:Option Addr} {n1 c1 m1 d1:Nat} {l:List Int} {es:List ByteArray} {W:World} {o:Option Ar} (h1:Av W a1 n1 c1 b1 m1 d1 l es o) (hW:WT W):Calls Tryz.prog 48 #[.agg #[.slice a1 n1 c1,.slice b1 m1 d1]] W (MEnd (shM o) W):=by
 cases o with
 |none=>exact sh_no h1
 |some q=>
  have e:shM (some q)=(some ([(n1:Int)],l),0):=by rw[←h1.fst,←h1.v.s.1,←h1.fst];rfl
  rw[e];exact sh_yes h1 hW
theorem ra_no {a1 b1:Option Addr} {n1 c1 m1 d1:Nat} {l:List Int} {es:List ByteArray} {W:World} (h1:Av W a1 n1 c1 b1 m1 d1 l es none):
 Calls Tryz.prog 49 #[.agg #[.slice a1 n1 c1,.slice b1 m1 d1]] W (MEnd (none,1) W):=by
 have KV:=Lib.hid (fun w (hb:Below W.heap.size W w)=>VMay_av (h1.below hb))
 clear h1
 have h:=live1 W a1 n1 c1 b1 m1 d1
 go_enter Tryz.func49,Tryz.ntmps49
 have x1:=h.out.2.1.c0
 have y1:=h.out.2.1.c1
 go_wp2_with fail
 with_reducible refine(live h (KV.out _ h.out.2.2)).mono ?_
 clear h x1 y1
 rintro e w ⟨rfl,h⟩
 have y0:=h.out.1.c0
 have y3:=h.out.1.c1
 have f0:=h.out.1.f 0
 have f1:=h.out.1.f 1
 go_wp2_with fail
 have hR:=h.out.1.set none 0 0 none 0 0
 have r0:=hR.c0
 have r1:=hR.c1
 exact bodyPost_ret (v:=.tuple #[.agg #[.slice none 0 0,.slice none 0 0],.int .i64 1]) (by simp[results,Tryz.results49,go_sem,r0,r1]) rfl (mend_no h.out.1 h.out.2.2 (by omega))
theorem ra_yes {a1 b1:Option Addr} {n1 c1 m1 d1:Nat} {l:List Int} {es:List ByteArray} {W:World} {q:Ar} (h1:Av W a1 n1 c1 b1 m1 d1 l es (some q)):
 Calls Tryz.prog 49 #[.agg #[.slice a1 n1 c1,.slice b1 m1 d1]] W (MEnd (some ([(m1:Int)],q.2),0) W):=by
 have KV:=Lib.hid (fun w (hb:Below W.heap.size W w)=>VMay_av (h1.below hb))
 obtain⟨hm,hp,hm4⟩:=h1.mlen
 have KN:=Lib.hid (fun w (hb:Below W.heap.size W w)=>Vector_pt b1 m1 d1 es w (h1.v.t.below hb) (by omega))
 have hes:=h1.i.2.1
 have HR:=Lib.hid (vec_rok (t:=m1) (xs:=q.2) hm4 hm.symm h1.i.2.2.2)
 subst hes
 clear h1 hm hp hm4
 have h:=live1 W a1 n1 c1 b1 m1 d1
 go_enter Tryz.func49,Tryz.ntmps49
 have x1:=h.out.2.1.c0
 have y1:=h.out.2.1.c1
 go_wp2_with fail
 with_reducible refine(live h (KV.out _ h.out.2.2)).mono ?_
 clear h x1 y1
 rintro e w ⟨rfl,h⟩
 have x1:=h.out.2.1.c0
 have y1:=h.out.2.1.c1
 have y0:=h.out.1.c0
 have y3:=h.out.1.c1
 have f0:=h.out.1.f 0
 have f1:=h.out.1.f 1
 go_wp2_with fail
 with_reducible refine(live_pt h (KN.out _ h.out.2.2)).mono ?_
 clear h y0 y3 f0 f1 x1 y1
 rintro e w ⟨ar,nr,cr,br,mr,dr,rfl,h,hv,hc⟩
 have y0:=h.out.1.c0
 have y3:=h.out.1.c1
 have f0:=h.out.1.f 0
 have f1:=h.out.1.f 1
 go_wp2_with fail
 have hR:=h.out.1.set ar nr cr br mr dr
 have r0:=hR.c0
 have r1:=hR.c1
 exact bodyPost_ret (v:=.tuple #[.agg #[.slice ar nr cr,.slice br mr dr],.int .i64 0]) (by simp[results,Tryz.results49,go_sem,r0,r1]) rfl (mend_box (r:=_) h.out.1 h.out.2.2 (by omega) hv hc HR.out)
theorem MRavel_is {a1 b1:Option Addr} {n1 c1 m1 d1:Nat} {l:List Int} {es:List ByteArray} {W:World} {o:Option Ar} (h1:Av W a1 n1 c1 b1 m1 d1 l es o):Calls Tryz.prog 49 #[.agg #[.slice a1 n1 c1,.slice b1 m1 d1]] W (MEnd (raM o) W):=by
 cases o with
 |none=>exact ra_no h1
 |some q=>
  have e:raM (some q)=(some ([(m1:Int)],q.2),0):=by rw[h1.mlen.1];rfl
  rw[e];exact ra_yes h1
end Go.Proofs.YtcfbjdplhgdpfaaGreatDoor

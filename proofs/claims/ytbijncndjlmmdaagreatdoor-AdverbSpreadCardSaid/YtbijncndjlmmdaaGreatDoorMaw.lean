import Derived.Test.YtbijncndjlmmdaaGreatDoorMav
set_option maxHeartbeats 3200000
set_option maxRecDepth 100000
namespace Go.Proofs.YtbijncndjlmmdaaGreatDoor
set_option linter.unusedVariables false
set_option linter.unusedSimpArgs false
open Go.RowKit
theorem live_to {P:World→Prop} {w w':World} (h:Lv P w) (hb:Below w.heap.size w w')
 (hs:Stb P:=by repeat' (first|exact Stb.bel _|exact Stb.bx|exact Stb.vl|refine Stb.and ?_ ?_|exact Stb.triv)):Lv P w':=⟨hs _ _ h.out hb⟩
theorem io_no {a1 b1:Option Addr} {n1 c1 m1 d1:Nat} {l:List Int} {es:List ByteArray} {W:World} (h1:Av W a1 n1 c1 b1 m1 d1 l es none):
 Calls Tryz.prog 109 #[.agg #[.slice a1 n1 c1,.slice b1 m1 d1]] W (MEnd (none,1) W):=by
 have KV:=Lib.hid (fun w (hb:Below W.heap.size W w)=>VMay_av (h1.below hb))
 clear h1
 have h:=live1 W a1 n1 c1 b1 m1 d1
 go_enter Tryz.func109,Tryz.ntmps109
 have x1:=h.out.2.1.c0
 have y1:=h.out.2.1.c1
 go_wp2_with fail
 with_reducible refine(live h (KV.out _ h.out.2.2)).mono ?_
 clear h x1 y1
 rintro e w ⟨rfl,h⟩
 have y0:=h.out.1.c0
 have y3:=h.out.1.c1
 have f0:=h.out.1.f 0
 have f1:=h.out.1.f 1
 go_wp2_with fail
 have hR:=h.out.1.set none 0 0 none 0 0
 have r0:=hR.c0
 have r1:=hR.c1
 exact bodyPost_ret (v:=.tuple #[.agg #[.slice none 0 0,.slice none 0 0],.int .i64 1]) (by simp[results,Tryz.results109,go_sem,r0,r1]) rfl (mend_no h.out.1 h.out.2.2 (by omega))
theorem io_err {a1 b1:Option Addr} {n1 c1 m1 d1:Nat} {l:List Int} {es:List ByteArray} {W:World} {q:Ar} (h1:Av W a1 n1 c1 b1 m1 d1 l es (some q)) (hW:WT W) (he:(inM q).2≠0):
 Calls Tryz.prog 109 #[.agg #[.slice a1 n1 c1,.slice b1 m1 d1]] W (MEnd (none,(inM q).2) W):=by
 have KV:=Lib.hid (fun w (hb:Below W.heap.size W w)=>VMay_av (h1.below hb))
 have KI:=Lib.hid (fun w (hb:Below W.heap.size W w)=>VInt_av (h1.below hb) (hW.below hb))
 clear h1 hW
 generalize (inM q).1=x at*
 generalize (inM q).2=k at*
 have hk:(k != 0)=true:=by simpa using he
 have h:=live1 W a1 n1 c1 b1 m1 d1
 go_enter Tryz.func109,Tryz.ntmps109
 have x1:=h.out.2.1.c0
 have y1:=h.out.2.1.c1
 go_wp2_with fail
 with_reducible refine(live h (KV.out _ h.out.2.2)).mono ?_
 clear h x1 y1
 rintro e w ⟨rfl,h⟩
 have x1:=h.out.2.1.c0
 have y1:=h.out.2.1.c1
 go_wp2_with fail
 with_reducible refine(live h (KI.out _ h.out.2.2)).mono ?_
 clear h x1 y1
 rintro e w ⟨rfl,h⟩
 have y0:=h.out.1.c0
 have y3:=h.out.1.c1
 have f0:=h.out.1.f 0
 have f1:=h.out.1.f 1
 go_wp2_with fail
 have hR:=h.out.1.set none 0 0 none 0 0
 have r0:=hR.c0
 have r1:=hR.c1
 exact bodyPost_ret (v:=.tuple #[.agg #[.slice none 0 0,.slice none 0 0],.int .i64 k]) (by simp[results,Tryz.results109,go_sem,r0,r1]) rfl (mend_no h.out.1 h.out.2.2 (by omega))
theorem io_low {a1 b1:Option Addr} {n1 c1 m1 d1:Nat} {l:List Int} {es:List ByteArray} {W:World} {q:Ar} (h1:Av W a1 n1 c1 b1 m1 d1 l es (some q)) (hW:WT W) (he:(inM q).2=0) (hx:(inM q).1<0):
 Calls Tryz.prog 109 #[.agg #[.slice a1 n1 c1,.slice b1 m1 d1]] W (MEnd (none,5) W):=by
 have KV:=Lib.hid (fun w (hb:Below W.heap.size W w)=>VMay_av (h1.below hb))
 have KI:=Lib.hid (fun w (hb:Below W.heap.size W w)=>VInt_av (h1.below hb) (hW.below hb))
 rw[he]at KI
 clear h1 hW he
 generalize (inM q).1=x at*
 have h:=live1 W a1 n1 c1 b1 m1 d1
 go_enter Tryz.func109,Tryz.ntmps109
 have x1:=h.out.2.1.c0
 have y1:=h.out.2.1.c1
 go_wp2_with fail
 with_reducible refine(live h (KV.out _ h.out.2.2)).mono ?_
 clear h x1 y1
 rintro e w ⟨rfl,h⟩
 have x1:=h.out.2.1.c0
 have y1:=h.out.2.1.c1
 go_wp2_with fail
 with_reducible refine(live h (KI.out _ h.out.2.2)).mono ?_
 clear h x1 y1
 rintro e w ⟨rfl,h⟩
 have y0:=h.out.1.c0
 have y3:=h.out.1.c1
 have f0:=h.out.1.f 0
 have f1:=h.out.1.f 1
 go_wp2_with fail
 have hR:=h.out.1.set none 0 0 none 0 0
 have r0:=hR.c0
 have r1:=hR.c1
 exact bodyPost_ret (v:=.tuple #[.agg #[.slice none 0 0,.slice none 0 0],.int .i64 5]) (by simp[results,Tryz.results109,go_sem,r0,r1]) rfl (mend_no h.out.1 h.out.2.2 (by omega))
theorem io_big {a1 b1:Option Addr} {n1 c1 m1 d1:Nat} {l:List Int} {es:List ByteArray} {W:World} {q:Ar} (h1:Av W a1 n1 c1 b1 m1 d1 l es (some q)) (hW:WT W) (he:(inM q).2=0) (hx:4096<(inM q).1):
 Calls Tryz.prog 109 #[.agg #[.slice a1 n1 c1,.slice b1 m1 d1]] W (MEnd (none,8) W):=by
 have KV:=Lib.hid (fun w (hb:Below W.heap.size W w)=>VMay_av (h1.below hb))
 have KI:=Lib.hid (fun w (hb:Below W.heap.size W w)=>VInt_av (h1.below hb) (hW.below hb))
 rw[he]at KI
 clear h1 hW he
 generalize (inM q).1=x at*
 have h0:¬(x<0):=by omega
 have h:=live1 W a1 n1 c1 b1 m1 d1
 go_enter Tryz.func109,Tryz.ntmps109
 have x1:=h.out.2.1.c0
 have y1:=h.out.2.1.c1
 go_wp2_with fail
 with_reducible refine(live h (KV.out _ h.out.2.2)).mono ?_
 clear h x1 y1
 rintro e w ⟨rfl,h⟩
 have x1:=h.out.2.1.c0
 have y1:=h.out.2.1.c1
 go_wp2_with fail
 with_reducible refine(live h (KI.out _ h.out.2.2)).mono ?_
 clear h x1 y1
 rintro e w ⟨rfl,h⟩
 have y0:=h.out.1.c0
 have y3:=h.out.1.c1
 have f0:=h.out.1.f 0
 have f1:=h.out.1.f 1
 go_wp2_with fail
 have hR:=h.out.1.set none 0 0 none 0 0
 have r0:=hR.c0
 have r1:=hR.c1
 exact bodyPost_ret (v:=.tuple #[.agg #[.slice none 0 0,.slice none 0 0],.int .i64 8]) (by simp[results,Tryz.results109,go_sem,r0,r1]) rfl (mend_no h.out.1 h.out.2.2 (by omega))
theorem up_len (t:Nat):(upM t).length=t:=by simp[upM]
theorem up_at {t j:Nat} (h:j<t):(upM t).getD j 0=(j:Int):=by simp[upM,List.getD_eq_getElem?_getD,List.getElem?_range h]
theorem up_succ (k:Nat):valsI (upM (k+1))=valsI (upM k)++valsI [(k:Int)]:=by simp[upM,valsI,List.range_succ]
theorem vec_rok {t:Nat} {xs:List Int} (ht:t≤4096) (hl:xs.length=t) (hb:∀x∈xs,x.natAbs<lim):Rok (some ([(t:Int)],xs)):=by
 refine⟨szE_may.2 ⟨by simp,fun j hj=> ?_,fun j hj=> ?_,?_⟩,by show(xs.length:Int)=(t:Int)*1;omega,hb⟩
 · obtain rfl:j=0:=by simpa using hj
   show(0:Int)≤(t:Int);omega
 · obtain rfl:j=0:=by simpa using hj
   show(t:Int)≤1099511627776;omega
 · show(t:Int)*1≤4096;omega
theorem small_rok {x:Int} (h:x.natAbs<10000000000000000000000):x.natAbs<lim:=Nat.lt_of_lt_of_le h lim_big
theorem up_rok {t:Nat} (h:t≤4096):Rok (some ([(t:Int)],upM t)):=vec_rok h (up_len t) fun x hx=>by
 obtain⟨j,hj,rfl⟩:=List.mem_map.1 hx
 have:=List.mem_range.1 hj
 exact small_rok (by omega)
theorem io_yes {a1 b1:Option Addr} {n1 c1 m1 d1:Nat} {l:List Int} {es:List ByteArray} {W:World} {q:Ar} {t:Nat} (h1:Av W a1 n1 c1 b1 m1 d1 l es (some q)) (hW:WT W) (he:inM q=((t:Int),0)) (ht:t≤4096):
 Calls Tryz.prog 109 #[.agg #[.slice a1 n1 c1,.slice b1 m1 d1]] W (MEnd (some ([(t:Int)],upM t),0) W):=by
 have KV:=Lib.hid (fun w (hb:Below W.heap.size W w)=>VMay_av (h1.below hb))
 have KI:=Lib.hid (fun w (hb:Below W.heap.size W w)=>VInt_av (h1.below hb) (hW.below hb))
 rw[he]at KI
 have KN:=Lib.hid (fun w (hb:Below W.heap.size W w) a c (hs:Sl w a t (upM t))=>Ints_pt a t c (upM t) w hs (fun j hj=>by rw[up_at hj];unfold I64;omega) (by omega) (hW.below hb))
 have HR:=Lib.hid (up_rok ht)
 have hx0:¬((t:Int)<0):=by omega
 have hx1:¬((4096:Int)<(t:Int)):=by omega
 clear h1 hW he
 have h:=live1 W a1 n1 c1 b1 m1 d1
 go_enter Tryz.func109,Tryz.ntmps109
 have x1:=h.out.2.1.c0
 have y1:=h.out.2.1.c1
 go_wp2_with fail
 with_reducible refine(live h (KV.out _ h.out.2.2)).mono ?_
 clear h x1 y1
 rintro e w ⟨rfl,h⟩
 have x1:=h.out.2.1.c0
 have y1:=h.out.2.1.c1
 go_wp2_with fail
 with_reducible refine(live h (KI.out _ h.out.2.2)).mono ?_
 clear h x1 y1
 rintro e w ⟨rfl,h⟩
 go_wp2_with fail
 go_loopw [6,31] (fun lv i wr=>∃k:Nat,i=.int .i64 k∧k≤t∧wr.ownsRow w.heap.size 3 1 lv k (valsI (upM k))∧Below w.heap.size w wr) (fun _ i _=>t-(intOf i).toNat)
 case atStart=>exact⟨0,rfl,Nat.zero_le _,World.ownsRow_nil _ _ _ _,Below.refl _ _⟩
 case round=>
  obtain⟨k,rfl,hk,hown,hbq⟩:=hrel
  by_cases hlt:k<t
  · have e2:(k:Int)<(t:Int):=by omega
    have ho2:=Lib.hid (hown.alloc (.cells #[.int .i64 (k:Int)] 3))
    have hr2:=Lib.hid (own_rd (own_new1 wr (k:Int)))
    have hbs:=hbq.size
    have HB:=Lib.hid hbq
    clear hown hbq
    go_wp2_with (at_builtin;refine wpList_append_rd rfl (.tmp 34) (.tmp 36) 22 rfl w.heap.size 3 (.int .i64 0) 8 Tryz.underlying22 infoInt1 rfl (by decide) _ k (valsI (upM k)) rfl ho2.out _ 1 1 (valsI [(k:Int)]) rfl hr2.out (valsI_one _) (by omega) (by simp;omega) ?_;intro av' cv' w3 hown3 hg3)
    have hb4:Below w.heap.size w w3:=(HB.out.alloc HB.out.size _).trans (grown_below' hg3 (fun g' hg'=>(ho2.out.lt g' hg').1) (by simp;omega))
    rw[←up_succ]at hown3
    clear hg3 ho2 hr2
    go_wp2_with fail
    go_roundw
    case rel=>exact⟨k+1,by go_num,by omega,hown3,hb4⟩
    case measure=>simp[intOf];omega
  · have e2:¬(k:Int)<(t:Int):=by omega
    obtain rfl:k=t:=by omega
    obtain⟨ae,ce,rfl⟩:=own_form hown
    replace h:=live_to h hbq
    have HS:=Lib.hid (own_sl hown)
    clear hown hbq
    have y0:=h.out.1.c0
    have y3:=h.out.1.c1
    have f0:=h.out.1.f 0
    have f1:=h.out.1.f 1
    go_wp2_with fail
    with_reducible refine(live_pt h (KN.out _ h.out.2.2 _ _ HS.out)).mono ?_
    clear h y0 y3 f0 f1
    rintro e w ⟨ar,nr,cr,br,mr,dr,rfl,h,hv,hc⟩
    have y0:=h.out.1.c0
    have y3:=h.out.1.c1
    have f0:=h.out.1.f 0
    have f1:=h.out.1.f 1
    go_wp2_with fail
    have hR:=h.out.1.set ar nr cr br mr dr
    have r0:=hR.c0
    have r1:=hR.c1
    exact bodyPost_ret (v:=.tuple #[.agg #[.slice ar nr cr,.slice br mr dr],.int .i64 0]) (by simp[results,Tryz.results109,go_sem,r0,r1]) rfl (mend_box (r:=_) h.out.1 h.out.2.2 (by omega) hv hc HR.out)
theorem MIota_is {a1 b1:Option Addr} {n1 c1 m1 d1:Nat} {l:List Int} {es:List ByteArray} {W:World} {o:Option Ar} (h1:Av W a1 n1 c1 b1 m1 d1 l es o) (hW:WT W):Calls Tryz.prog 109 #[.agg #[.slice a1 n1 c1,.slice b1 m1 d1]] W (MEnd (ioM o) W):=by
 cases o with
 |none=>exact io_no h1
 |some q=>
  by_cases he:(inM q).2=0
  · by_cases h0:(inM q).1<0
    · have e:ioM (some q)=(none,5):=by unfold ioM;dsimp only;rw[if_neg (fun h=>h he),if_pos h0]
      rw[e];exact io_low h1 hW he h0
    · by_cases h4:4096<(inM q).1
      · have e:ioM (some q)=(none,8):=by unfold ioM;dsimp only;rw[if_neg (fun h=>h he),if_neg h0,if_pos h4]
        rw[e];exact io_big h1 hW he h4
      · obtain⟨t,ht⟩:∃t:Nat,(inM q).1=(t:Int):=⟨(inM q).1.toNat,by omega⟩
        have e:ioM (some q)=(some ([(t:Int)],upM t),0):=by
         unfold ioM;dsimp only;rw[if_neg (fun h=>h he),if_neg h0,if_neg h4,ht,Int.toNat_natCast]
        rw[e];exact io_yes h1 hW (Prod.ext ht he) (by omega)
  · have e:ioM (some q)=(none,(inM q).2):=by unfold ioM;dsimp only;rw[if_pos he]
    rw[e];exact io_err h1 hW he
theorem Itoa_is (n:Int) (h0: -9223372036854775808≤n) (h1:n≤9223372036854775807) (w:World) (htab:Tab w):Calls Tryz.prog 155 #[.int .i64 n] w fun e w'=>e=.returned (.string (S n))∧Below w.heap.size w w':=
 (Tryz.strconv_Itoa n h0 h1 w htab.is).mono fun e w' ⟨he,k,os,hw⟩=>⟨he,by rw[hw];exact Lib.below_grow _ w (Nat.le_refl _) k os⟩
theorem ta_no {a1 b1:Option Addr} {n1 c1 m1 d1:Nat} {l:List Int} {es:List ByteArray} {W:World} (h1:Av W a1 n1 c1 b1 m1 d1 l es none):
 Calls Tryz.prog 110 #[.agg #[.slice a1 n1 c1,.slice b1 m1 d1]] W (MEnd (none,1) W):=by
 have KV:=Lib.hid (fun w (hb:Below W.heap.size W w)=>VMay_av (h1.below hb))
 clear h1
 have h:=live1 W a1 n1 c1 b1 m1 d1
 go_enter Tryz.func110,Tryz.ntmps110
 have x1:=h.out.2.1.c0
 have y1:=h.out.2.1.c1
 go_wp2_with fail
 with_reducible refine(live h (KV.out _ h.out.2.2)).mono ?_
 clear h x1 y1
 rintro e w ⟨rfl,h⟩
 have y0:=h.out.1.c0
 have y3:=h.out.1.c1
 have f0:=h.out.1.f 0
 have f1:=h.out.1.f 1
 go_wp2_with fail
 have hR:=h.out.1.set none 0 0 none 0 0
 have r0:=hR.c0
 have r1:=hR.c1
 exact bodyPost_ret (v:=.tuple #[.agg #[.slice none 0 0,.slice none 0 0],.int .i64 1]) (by simp[results,Tryz.results110,go_sem,r0,r1]) rfl (mend_no h.out.1 h.out.2.2 (by omega))
theorem ta_yes {a1 b1:Option Addr} {n1 c1 m1 d1:Nat} {l:List Int} {es:List ByteArray} {W:World} {q:Ar} (h1:Av W a1 n1 c1 b1 m1 d1 l es (some q)) (hW:WT W):
 Calls Tryz.prog 110 #[.agg #[.slice a1 n1 c1,.slice b1 m1 d1]] W (MEnd (some ([],[(mN l:Int)]),0) W):=by
 have KV:=Lib.hid (fun w (hb:Below W.heap.size W w)=>VMay_av (h1.below hb))
 have hb:=h1.items.2.2.1
 have KM:=Lib.hid (fun w (hb:Below W.heap.size W w)=>VMany_av (h1.below hb))
 have KT:=Lib.hid (fun w (hb:Below W.heap.size W w)=>Itoa_is (mN l:Int) (by omega) (by omega) w (hW.below hb).tab)
 have KN:=Lib.hid (fun w=>Scalar_pt (S (mN l:Int)) w)
 have HR:Hid (Rok (some ([],[(mN l:Int)]))):=Lib.hid ⟨(by decide:szE []=0),(rfl:((1:Nat):Int)=pr []),fun x hx=>by
  rw[List.mem_singleton]at hx
  exact Nat.lt_of_lt_of_le (show x.natAbs<10000000000000000000000 by omega) lim_big⟩
 clear h1 hW hb
 generalize mN l=N at*
 have h:=live1 W a1 n1 c1 b1 m1 d1
 go_enter Tryz.func110,Tryz.ntmps110
 have x1:=h.out.2.1.c0
 have y1:=h.out.2.1.c1
 go_wp2_with fail
 with_reducible refine(live h (KV.out _ h.out.2.2)).mono ?_
 clear h x1 y1
 rintro e w ⟨rfl,h⟩
 have x1:=h.out.2.1.c0
 have y1:=h.out.2.1.c1
 go_wp2_with fail
 with_reducible refine(live h (KM.out _ h.out.2.2)).mono ?_
 clear h x1 y1
 rintro e w ⟨rfl,h⟩
 go_wp2_with fail
 with_reducible refine(live h (KT.out _ h.out.2.2)).mono ?_
 clear h
 rintro e w ⟨rfl,h⟩
 have y0:=h.out.1.c0
 have y3:=h.out.1.c1
 have f0:=h.out.1.f 0
 have f1:=h.out.1.f 1
 go_wp2_with fail
 with_reducible refine(live_pt h (KN.out _)).mono ?_
 clear h y0 y3 f0 f1
 rintro e w ⟨ar,nr,cr,br,mr,dr,rfl,h,hv,hc⟩
 have y0:=h.out.1.c0
 have y3:=h.out.1.c1
 have f0:=h.out.1.f 0
 have f1:=h.out.1.f 1
 go_wp2_with fail
 have hR:=h.out.1.set ar nr cr br mr dr
 have r0:=hR.c0
 have r1:=hR.c1
 exact bodyPost_ret (v:=.tuple #[.agg #[.slice ar nr cr,.slice br mr dr],.int .i64 0]) (by simp[results,Tryz.results110,go_sem,r0,r1]) rfl (mend_box (r:=_) h.out.1 h.out.2.2 (by omega) hv hc HR.out)
theorem MTally_is {a1 b1:Option Addr} {n1 c1 m1 d1:Nat} {l:List Int} {es:List ByteArray} {W:World} {o:Option Ar} (h1:Av W a1 n1 c1 b1 m1 d1 l es o) (hW:WT W):Calls Tryz.prog 110 #[.agg #[.slice a1 n1 c1,.slice b1 m1 d1]] W (MEnd (taM o) W):=by
 cases o with
 |none=>exact ta_no h1
 |some q=>
  have e:taM (some q)=(some ([],[(mN l:Int)]),0):=by rw[h1.items.2.1,←h1.fst];rfl
  rw[e];exact ta_yes h1 hW
theorem sh_no {a1 b1:Option Addr} {n1 c1 m1 d1:Nat} {l:List Int} {es:List ByteArray} {W:World} (h1:Av W a1 n1 c1 b1 m1 d1 l es none):
 Calls Tryz.prog 111 #[.agg #[.slice a1 n1 c1,.slice b1 m1 d1]] W (MEnd (none,1) W):=by
 have KV:=Lib.hid (fun w (hb:Below W.heap.size W w)=>VMay_av (h1.below hb))
 clear h1
 have h:=live1 W a1 n1 c1 b1 m1 d1
 go_enter Tryz.func111,Tryz.ntmps111
 have x1:=h.out.2.1.c0
 have y1:=h.out.2.1.c1
 go_wp2_with fail
 with_reducible refine(live h (KV.out _ h.out.2.2)).mono ?_
 clear h x1 y1
 rintro e w ⟨rfl,h⟩
 have y0:=h.out.1.c0
 have y3:=h.out.1.c1
 have f0:=h.out.1.f 0
 have f1:=h.out.1.f 1
 go_wp2_with fail
 have hR:=h.out.1.set none 0 0 none 0 0
 have r0:=hR.c0
 have r1:=hR.c1
 exact bodyPost_ret (v:=.tuple #[.agg #[.slice none 0 0,.slice none 0 0],.int .i64 1]) (by simp[results,Tryz.results111,go_sem,r0,r1]) rfl (mend_no h.out.1 h.out.2.2 (by omega))
theorem sh_yes {a1 b1:Option Addr} {n1 c1 m1 d1:Nat} {l:List Int} {es:List ByteArray} {W:World} {q:Ar} (h1:Av W a1 n1 c1 b1 m1 d1 l es (some q)) (hW:WT W):
 Calls Tryz.prog 111 #[.agg #[.slice a1 n1 c1,.slice b1 m1 d1]] W (MEnd (some ([(n1:Int)],l),0) W):=by
 have KV:=Lib.hid (fun w (hb:Below W.heap.size W w)=>VMay_av (h1.below hb))
 have hmay:=szE_may.1 h1.sz
 have hl:=h1.v.s.1
 have KN:=Lib.hid (fun w (hb:Below W.heap.size W w)=>Ints_pt a1 n1 c1 l w (h1.v.s.below hb) (fun j hj=>by have:=hmay.nn j (by omega);have:=hmay.le j (by omega);unfold I64;omega) (by have:=h1.n3;omega) (hW.below hb))
 have HR:=Lib.hid (vec_rok (t:=n1) (xs:=l) (by have:=h1.n3;omega) hl fun x hx=>by
  obtain⟨j,hj,rfl⟩:=List.getElem_of_mem hx
  have e1:=hmay.nn j hj
  have e2:=hmay.le j hj
  rw[List.getD_eq_getElem?_getD,List.getElem?_eq_getElem hj,Option.getD_some]at e1 e2
  exact small_rok (by omega))
 clear h1 hW hmay hl
 have h:=live1 W a1 n1 c1 b1 m1 d1
 go_enter Tryz.func111,Tryz.ntmps111
 have x1:=h.out.2.1.c0
 have y1:=h.out.2.1.c1
 go_wp2_with fail
 with_reducible refine(live h (KV.out _ h.out.2.2)).mono ?_
 clear h x1 y1
 rintro e w ⟨rfl,h⟩
 have x1:=h.out.2.1.c0
 have y1:=h.out.2.1.c1
 have y0:=h.out.1.c0
 have y3:=h.out.1.c1
 have f0:=h.out.1.f 0
 have f1:=h.out.1.f 1
 go_wp2_with fail
 with_reducible refine(live_pt h (KN.out _ h.out.2.2)).mono ?_
 clear h y0 y3 f0 f1 x1 y1
 rintro e w ⟨ar,nr,cr,br,mr,dr,rfl,h,hv,hc⟩
 have y0:=h.out.1.c0
 have y3:=h.out.1.c1
 have f0:=h.out.1.f 0
 have f1:=h.out.1.f 1
 go_wp2_with fail
 have hR:=h.out.1.set ar nr cr br mr dr
 have r0:=hR.c0
 have r1:=hR.c1
 exact bodyPost_ret (v:=.tuple #[.agg #[.slice ar nr cr,.slice br mr dr],.int .i64 0]) (by simp[results,Tryz.results111,go_sem,r0,r1]) rfl (mend_box (r:=_) h.out.1 h.out.2.2 (by omega) hv hc HR.out)
theorem MShape_is {a1 b1:Option Addr} {n1 c1 m1 d1:Nat} {l:List Int} {es:List ByteArray} {W:World} {o:Option Ar} (h1:Av W a1 n1 c1 b1 m1 d1 l es o) (hW:WT W):Calls Tryz.prog 111 #[.agg #[.slice a1 n1 c1,.slice b1 m1 d1]] W (MEnd (shM o) W):=by
 cases o with
 |none=>exact sh_no h1
 |some q=>
  have e:shM (some q)=(some ([(n1:Int)],l),0):=by rw[←h1.fst,←h1.v.s.1,←h1.fst];rfl
  rw[e];exact sh_yes h1 hW
theorem ra_no {a1 b1:Option Addr} {n1 c1 m1 d1:Nat} {l:List Int} {es:List ByteArray} {W:World} (h1:Av W a1 n1 c1 b1 m1 d1 l es none):
 Calls Tryz.prog 112 #[.agg #[.slice a1 n1 c1,.slice b1 m1 d1]] W (MEnd (none,1) W):=by
 have KV:=Lib.hid (fun w (hb:Below W.heap.size W w)=>VMay_av (h1.below hb))
 clear h1
 have h:=live1 W a1 n1 c1 b1 m1 d1
 go_enter Tryz.func112,Tryz.ntmps112
 have x1:=h.out.2.1.c0
 have y1:=h.out.2.1.c1
 go_wp2_with fail
 with_reducible refine(live h (KV.out _ h.out.2.2)).mono ?_
 clear h x1 y1
 rintro e w ⟨rfl,h⟩
 have y0:=h.out.1.c0
 have y3:=h.out.1.c1
 have f0:=h.out.1.f 0
 have f1:=h.out.1.f 1
 go_wp2_with fail
 have hR:=h.out.1.set none 0 0 none 0 0
 have r0:=hR.c0
 have r1:=hR.c1
 exact bodyPost_ret (v:=.tuple #[.agg #[.slice none 0 0,.slice none 0 0],.int .i64 1]) (by simp[results,Tryz.results112,go_sem,r0,r1]) rfl (mend_no h.out.1 h.out.2.2 (by omega))
theorem ra_yes {a1 b1:Option Addr} {n1 c1 m1 d1:Nat} {l:List Int} {es:List ByteArray} {W:World} {q:Ar} (h1:Av W a1 n1 c1 b1 m1 d1 l es (some q)):
 Calls Tryz.prog 112 #[.agg #[.slice a1 n1 c1,.slice b1 m1 d1]] W (MEnd (some ([(m1:Int)],q.2),0) W):=by
 have KV:=Lib.hid (fun w (hb:Below W.heap.size W w)=>VMay_av (h1.below hb))
 obtain⟨hm,hp,hm4⟩:=h1.mlen
 have KN:=Lib.hid (fun w (hb:Below W.heap.size W w)=>Vector_pt b1 m1 d1 es w (h1.v.t.below hb) (by omega))
 have hes:=h1.i.2.1
 have HR:=Lib.hid (vec_rok (t:=m1) (xs:=q.2) hm4 hm.symm h1.i.2.2.2)
 subst hes
 clear h1 hm hp hm4
 have h:=live1 W a1 n1 c1 b1 m1 d1
 go_enter Tryz.func112,Tryz.ntmps112
 have x1:=h.out.2.1.c0
 have y1:=h.out.2.1.c1
 go_wp2_with fail
 with_reducible refine(live h (KV.out _ h.out.2.2)).mono ?_
 clear h x1 y1
 rintro e w ⟨rfl,h⟩
 have x1:=h.out.2.1.c0
 have y1:=h.out.2.1.c1
 have y0:=h.out.1.c0
 have y3:=h.out.1.c1
 have f0:=h.out.1.f 0
 have f1:=h.out.1.f 1
 go_wp2_with fail
 with_reducible refine(live_pt h (KN.out _ h.out.2.2)).mono ?_
 clear h y0 y3 f0 f1 x1 y1
 rintro e w ⟨ar,nr,cr,br,mr,dr,rfl,h,hv,hc⟩
 have y0:=h.out.1.c0
 have y3:=h.out.1.c1
 have f0:=h.out.1.f 0
 have f1:=h.out.1.f 1
 go_wp2_with fail
 have hR:=h.out.1.set ar nr cr br mr dr
 have r0:=hR.c0
 have r1:=hR.c1
 exact bodyPost_ret (v:=.tuple #[.agg #[.slice ar nr cr,.slice br mr dr],.int .i64 0]) (by simp[results,Tryz.results112,go_sem,r0,r1]) rfl (mend_box (r:=_) h.out.1 h.out.2.2 (by omega) hv hc HR.out)
theorem MRavel_is {a1 b1:Option Addr} {n1 c1 m1 d1:Nat} {l:List Int} {es:List ByteArray} {W:World} {o:Option Ar} (h1:Av W a1 n1 c1 b1 m1 d1 l es o):Calls Tryz.prog 112 #[.agg #[.slice a1 n1 c1,.slice b1 m1 d1]] W (MEnd (raM o) W):=by
 cases o with
 |none=>exact ra_no h1
 |some q=>
  have e:raM (some q)=(some ([(m1:Int)],q.2),0):=by rw[h1.mlen.1];rfl
  rw[e];exact ra_yes h1
end Go.Proofs.YtbijncndjlmmdaaGreatDoor
namespace Go.Proofs.YtbijncndjlmmdaaGreatDoor
set_option linter.unusedVariables false
set_option linter.unusedSimpArgs false
open Go.RowKit
theorem valsS_add (l k:List ByteArray):valsS l++valsS k=valsS (l++k):=by unfold valsS;rw[List.map_append]
theorem live_ci {P:World→Prop} {w:World} {f:FuncId} {args:Array Value} {n:Nat} {l:List Int} (h:Lv P w) (hc:Calls Tryz.prog f args w (ClI n l w))
 (hs:Stb P:=by repeat' (first|exact Stb.bel _|exact Stb.bx|exact Stb.vl|refine Stb.and ?_ ?_|exact Stb.triv)):
 Calls Tryz.prog f args w fun e w'=>∃a c,e=.returned (.slice a n c)∧Lv P w'∧OwI w w' a n c l∧Below w.heap.size w w':=
 hc.mono fun _ _ ⟨a,c,h1,h2,h3⟩=>⟨a,c,h1,⟨hs _ _ h.out h3⟩,h2,h3⟩
section
variable {α:Type}
theorem its_none (k:Nat):∀l:List Nat,its ([]:List α) k l=[]
 |[]=>rfl
 |i::r=>by show _++its [] k r=[];rw[its_none k r];simp
def rvJ (es:List α) (k N j:Nat):List α:=its es k (List.range' j (N-j)).reverse
theorem rvJ_start (es:List α) (k N:Nat):rvJ es k N N=[]:=by unfold rvJ;rw[Nat.sub_self];rfl
theorem rvJ_step (es:List α) (k:Nat) {N i:Nat} (h:i<N):rvJ es k N i=rvJ es k N (i+1)++(es.drop (i*k)).take k:=by
 unfold rvJ
 rw[show N-i=(N-(i+1))+1 by omega,List.range'_succ,List.reverse_cons,its_append]
 show _++((es.drop (i*k)).take k++its es k [])=_
 rw[show its es k []=([]:List α)from rfl,List.append_nil]
theorem rvJ_len {es:List α} {k N:Nat} (he:es.length=N*k) (j:Nat) (h:j≤N):(rvJ es k N j).length=(N-j)*k:=by
 unfold rvJ
 rw[its_length he (fun i hi=>by have:=List.mem_range'_1.1 (List.mem_reverse.1 hi);omega),List.length_reverse,List.length_range']
theorem rvJ_end (es:List α) (k N:Nat):rvJ es k N 0=rvs_ es k N:=by unfold rvJ rvs_;rw[Nat.sub_zero,List.range_eq_range']
theorem rvM_is {l:List Int} {es:List α} (h:Fits l es):rvM l es=rvJ es (iS l es.length) (mN l) 0:=by
 rw[rvJ_end]
 unfold rvM rvs_
 by_cases h0:es=[]
 · rw[if_pos (.inr h0),h0,its_none]
 · have hk:iS l es.length=kI l:=if_neg fun e=>h0 (List.length_eq_zero_iff.1 e)
   rw[hk]
   by_cases hl:l=[]
   · subst hl
     rw[if_pos (.inl rfl)]
     have he:=h.all.1
     have e1:es.length=1:=he
     show es=(es.drop (0*1)).take 1++[]
     rw[List.append_nil,Nat.zero_mul,List.drop_zero,List.take_of_length_le (by omega)]
   · rw[if_neg (fun g=>g.elim hl h0),mN_nI hl]
end
theorem its_map (es:List Int) (k:Nat):∀l:List Nat,its (es.map S) k l=(its es k l).map S
 |[]=>rfl
 |i::r=>by
  show _++its (es.map S) k r=(_++its es k r).map S
  rw[its_map es k r,List.map_append,List.map_take,List.map_drop]
theorem rvM_map (l xs:List Int):rvM l (xs.map S)=(rvM l xs).map S:=by
 unfold rvM
 by_cases h:l=[]∨xs=[]
 · rw[if_pos h,if_pos (by rcases h with h|h;exact .inl h;exact .inr (by rw[h];rfl))]
 · rw[if_neg h,if_neg (by rintro(g|g);exact h (.inl g);exact h (.inr (List.map_eq_nil_iff.1 g)))]
   exact its_map _ _ _
theorem its_sub {α:Type} {es:List α} {k:Nat}:∀{l:List Nat} {x:α},x∈its es k l→x∈es
 |[],_,h=>by cases h
 |i::r,x,h=>by
  rcases List.mem_append.1 h with h|h
  · exact List.mem_of_mem_drop (List.mem_of_mem_take h)
  · exact its_sub h
theorem rv_rok {q:Ar} (h:Rok (some q)) (hf:Fits q.1 q.2):Rok (some (q.1,rvM q.1 q.2)):=by
 refine⟨h.1,by rw[show(q.1,rvM q.1 q.2).2=rvM q.1 q.2 from rfl,rvM_length hf];exact h.2.1,fun x hx=>h.2.2 x ?_⟩
 have hx:x∈rvM q.1 q.2:=hx
 unfold rvM at hx
 split at hx
 · exact hx
 · exact its_sub hx
theorem re_no {a1 b1:Option Addr} {n1 c1 m1 d1:Nat} {l:List Int} {es:List ByteArray} {W:World} (h1:Av W a1 n1 c1 b1 m1 d1 l es none):
 Calls Tryz.prog 113 #[.agg #[.slice a1 n1 c1,.slice b1 m1 d1]] W (MEnd (none,1) W):=by
 have KV:=Lib.hid (fun w (hb:Below W.heap.size W w)=>VMay_av (h1.below hb))
 clear h1
 have h:=live1 W a1 n1 c1 b1 m1 d1
 go_enter Tryz.func113,Tryz.ntmps113
 have x1:=h.out.2.1.c0
 have y1:=h.out.2.1.c1
 go_wp2_with fail
 with_reducible refine(live h (KV.out _ h.out.2.2)).mono ?_
 clear h x1 y1
 rintro e w ⟨rfl,h⟩
 have y0:=h.out.1.c0
 have y3:=h.out.1.c1
 have f0:=h.out.1.f 0
 have f1:=h.out.1.f 1
 go_wp2_with fail
 have hR:=h.out.1.set none 0 0 none 0 0
 have r0:=hR.c0
 have r1:=hR.c1
 exact bodyPost_ret (v:=.tuple #[.agg #[.slice none 0 0,.slice none 0 0],.int .i64 1]) (by simp[results,Tryz.results113,go_sem,r0,r1]) rfl (mend_no h.out.1 h.out.2.2 (by omega))
theorem re_yes {a1 b1:Option Addr} {n1 c1 m1 d1:Nat} {l:List Int} {es:List ByteArray} {W:World} {q:Ar} (h1:Av W a1 n1 c1 b1 m1 d1 l es (some q)):
 Calls Tryz.prog 113 #[.agg #[.slice a1 n1 c1,.slice b1 m1 d1]] W (MEnd (some (q.1,rvM q.1 q.2),0) W):=by
 have KV:=Lib.hid (fun w (hb:Below W.heap.size W w)=>VMay_av (h1.below hb))
 obtain⟨i1,i2,i3,i4⟩:=h1.items
 have hm4:=h1.mlen.2.2
 have hmd:=h1.c.md
 have hn3:=h1.n3
 have hlen:=h1.v.t.1
 have hR1:rvM q.1 es=rvJ es (iS l m1) (mN l) 0:=by
  have hf:=h1.fits
  have e:Fits l es:=⟨by rw[←h1.fst];exact hf.1,by rw[hlen];exact h1.mlen.2.1⟩
  have e2:=rvM_is e
  rw[hlen]at e2
  rw[h1.fst]
  exact e2
 have hEs:(TS (some (q.1,rvM q.1 q.2))).2=rvJ es (iS l m1) (mN l) 0:=by
  rw[←hR1,h1.i.2.1]
  exact(rvM_map _ _).symm
 have hSh:(TS (some (q.1,rvM q.1 q.2))).1=l:=h1.fst
 have KE:=Lib.hid (And.intro hEs hSh)
 have KS:=Lib.hid (fun w (hb:Below W.heap.size W w)=>ISize_is (h1.below hb))
 have KC:=Lib.hid (fun w (hb:Below W.heap.size W w)=>Clone_o a1 n1 c1 l w (h1.v.s.below hb) (by omega))
 have KT:=Lib.hid (fun w (hb:Below W.heap.size W w)=>(h1.v.t.below hb:St w b1 m1 es))
 have HR:=Lib.hid (rv_rok h1.i.rok h1.fits)
 generalize iS l m1=k at*
 generalize mN l=N at*
 have HI:=Lib.hid (And.intro i4 (rvJ_len (es:=es) (k:=k) (N:=N) (by omega)))
 clear h1 hR1 hEs hSh i1 i2 i3 i4 hlen
 have h:=live1 W a1 n1 c1 b1 m1 d1
 go_enter Tryz.func113,Tryz.ntmps113
 have x1:=h.out.2.1.c0
 have y1:=h.out.2.1.c1
 go_wp2_with fail
 with_reducible refine(live h (KV.out _ h.out.2.2)).mono ?_
 clear h x1 y1
 rintro e w ⟨rfl,h⟩
 have x1:=h.out.2.1.c0
 have y1:=h.out.2.1.c1
 go_wp2_with fail
 with_reducible refine(live h (KS.out _ h.out.2.2)).mono ?_
 clear h x1 y1
 rintro e w ⟨rfl,h⟩
 have x1:=h.out.2.1.c0
 have y1:=h.out.2.1.c1
 go_wp2_with fail
 go_loopw [5,6] (fun ev i wr=>∃j:Nat,i=.int .i64 ((j*k:Nat):Int)∧j≤N∧wr.ownsRow w.heap.size 9 1 ev (rvJ es k N j).length (valsS (rvJ es k N j))∧Below w.heap.size w wr) (fun _ i _=>(intOf i).toNat)
 case atStart=>
  refine⟨N,by rw[←HI.out.1],Nat.le_refl _,?_,Below.refl _ _⟩
  rw[rvJ_start]
  exact World.ownsRow_nil _ _ _ _
 case round=>
  obtain⟨j,rfl,hj,hown,hbq⟩:=hrel
  clear x1 y1
  have hr:=live_to h hbq
  have x1:=hr.out.2.1.c0
  have y1:=hr.out.2.1.c1
  have hjm:j*k≤m1:=by have:=HI.out.1;have e:j*k≤N*k:=Nat.mul_le_mul_right _ hj;omega
  by_cases hlt:0<j*k
  · obtain⟨i,rfl⟩:∃i,j=i+1:=⟨j-1,by have:j≠0:=(by rintro rfl;simp at hlt);omega⟩
    obtain⟨o2,h2⟩:∃o2,o2=(i+1)*k:=⟨_,rfl⟩
    obtain⟨o1,h1⟩:∃o1,o1=i*k:=⟨_,rfl⟩
    have e12:o2=o1+k:=by rw[h2,h1,Nat.add_mul,Nat.one_mul]
    have hst:=rvJ_step es k (N:=N) (i:=i) (by omega)
    have hbound:(N-i)*k≤m1:=by have:=HI.out.1;have e:(N-i)*k≤N*k:=Nat.mul_le_mul_right _ (by omega);omega
    have hl2:=HI.out.2 i (by omega)
    rw[←h1]at hst
    rw[←h2]at hlt hjm ⊢
    have hk:o2-o1=k:=by omega
    have hk0:o1<o2:=by
     have:k≠0:=by rintro rfl;rw[h2,Nat.mul_zero]at hlt;omega
     omega
    obtain⟨L,hL⟩:∃L,L=rvJ es k N (i+1):=⟨_,rfl⟩
    rw[←hL]at hst hown
    replace hst:rvJ es k N i=L++(es.drop o1).take (o2-o1):=by rw[hk];exact hst
    have hes:=(KT.out wr hr.out.2.2).1
    have hLn:(rvJ es k N i).length=L.length+(o2-o1):=by
     rw[hst,List.length_append,List.length_take,List.length_drop,hes]
     omega
    have hlL:L.length+(o2-o1)≤4096:=by omega
    have e0:(0:Int)<(o2:Int):=by omega
    have hw:IntKind.i64.wrap ((o2:Int)-(k:Int))=(o1:Int):=by rw[show(o2:Int)-(k:Int)=(o1:Int)by omega];exact IntWalk.i64_in _ (by omega)
    have KQ:=Lib.hid (fun z=>CutS_is b1 m1 d1 o1 o2 z (by omega) (by omega))
    have hr2:=Lib.hid ((KT.out wr hr.out.2.2).cut (f:=o1) (t:=o2) (by omega) hjm).rd
    have ho2:=Lib.hid hown
    have HS:=Lib.hid (And.intro hst (And.intro h1 (And.intro h2 hLn)))
    have hbs:=hbq.size
    clear hown h1 h2 hst hl2 hL hLn hbound hk e12 hes
    go_wp2_with fail
    refine(KQ.out _).mono ?_
    rintro e w2 ⟨rfl,rfl⟩
    go_wp2_with (at_builtin;refine wpList_append_rd rfl (.tmp 21) (.tmp 28) 23 rfl w.heap.size 9 (.string ⟨#[]⟩) 16 Tryz.underlying23 infoStr rfl (by decide) _ L.length (valsS L) rfl ho2.out _ (o2-o1) (o2-o1) (valsS ((es.drop o1).take (o2-o1))) rfl hr2.out (valsS_one _) (by omega) hbs ?_;intro av' cv' w3 hown3 hg3)
    have hb4:Below w.heap.size w w3:=hbq.trans (grown_below' hg3 (fun g' hg'=>(ho2.out.lt g' hg').1) hbs)
    have hown4:w3.ownsRow w.heap.size 9 1 (.slice av' (L.length+(o2-o1)) cv') (rvJ es k N i).length (valsS (rvJ es k N i)):=by
     rw[HS.out.2.2.2,HS.out.1,←valsS_add]
     exact hown3
    clear hown3 ho2 hr2 hg3 x1 y1 hr
    go_wp2_with fail
    go_roundw
    case rel=>exact⟨i,by rw[←HS.out.2.1],by omega,hown4,hb4⟩
    case measure=>simp[intOf];omega
  · have hz:j*k=0:=by omega
    have hrv:rvJ es k N j=rvJ es k N 0:=by
     rcases Nat.mul_eq_zero.1 hz with h0|h0
     · rw[h0]
     · rw[List.eq_nil_of_length_eq_zero ((HI.out.2 j hj).trans (by rw[h0,Nat.mul_zero])),List.eq_nil_of_length_eq_zero ((HI.out.2 0 (Nat.zero_le _)).trans (by rw[h0,Nat.mul_zero]))]
    rw[hrv]at hown
    rw[hz]
    replace h:=hr
    obtain⟨R,hRR⟩:∃R,R=rvJ es k N 0:=⟨_,rfl⟩
    have hlR:R.length≤4096:=by rw[hRR,HI.out.2 0 (Nat.zero_le _),Nat.sub_zero,←HI.out.1];exact hm4
    rw[←hRR]at hown
    have HRR:=Lib.hid (And.intro hRR hlR)
    obtain⟨ae,ce,rfl⟩:=own_form hown
    have HO:=Lib.hid hown
    clear hRR hlR hrv hz hown hbq hr hlt hjm
    go_wp2_with fail
    refine(live_ci h (KC.out _ h.out.2.2)).mono ?_
    clear h x1 y1
    rintro e w5 ⟨aa,ca,rfl,h,ho,hb⟩
    have HO5:=Lib.hid (own_below HO.out hb)
    have HC:=Lib.hid ho
    clear ho hb HO
    have y0:=h.out.1.c0
    have y3:=h.out.1.c1
    have f0:=h.out.1.f 0
    have f1:=h.out.1.f 1
    go_wp2_with fail
    have hV:Vl w5 aa n1 ae R.length (TS (some (q.1,rvM q.1 q.2))).1 (TS (some (q.1,rvM q.1 q.2))).2:=by
     rw[KE.out.1,KE.out.2,←HRR.out.1]
     exact⟨HC.out.sl,own_st HO5.out,by have:=HRR.out.2;omega⟩
    have hR:=h.out.1.set aa n1 ca ae R.length ce
    have r0:=hR.c0
    have r1:=hR.c1
    exact bodyPost_ret (v:=.tuple #[.agg #[.slice aa n1 ca,.slice ae R.length ce],.int .i64 0]) (by simp[results,Tryz.results113,go_sem,r0,r1]) rfl (mend_box (r:=_) h.out.1 h.out.2.2 (by omega) hV ⟨HC.out.caps.1,HC.out.caps.2,(own_caps HO5.out).1,(own_caps HO5.out).2⟩ HR.out)
end Go.Proofs.YtbijncndjlmmdaaGreatDoor

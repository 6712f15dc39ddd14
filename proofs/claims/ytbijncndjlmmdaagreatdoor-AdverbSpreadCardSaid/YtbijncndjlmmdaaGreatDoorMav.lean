import Derived.Test.YtbijncndjlmmdaaGreatDoorMau
set_option maxHeartbeats 3200000
set_option maxRecDepth 100000
namespace Go.Proofs.YtbijncndjlmmdaaGreatDoor
set_option linter.unusedVariables false
set_option linter.unusedSimpArgs false
open Go.RowKit
theorem VMay_av {W:World} {a b:Option Addr} {n c m d:Nat} {l:List Int} {es:List ByteArray} {o:Option Ar} (h:Av W a n c b m d l es o):Calls Tryz.prog 21 #[.agg #[.slice a n c,.slice b m d]] W (BoolEnd o.isSome W):=by
 have e:=VMay_is (c:=c) (d:=d) W h.v h.z
 rwa [h.i.may]at e
theorem live10 (W:World) (a:Option Addr) (n c:Nat) (b:Option Addr) (m d:Nat):
 Lv (fun w=>Bx w W.heap.size a n c b m d∧Below W.heap.size W w) (W.alloc (.cells #[.slice a n c,.slice b m d] 25)):=⟨⟨Bx.new W a n c b m d,(Below.refl _ _).alloc (Nat.le_refl _) _⟩⟩
theorem live20 (W:World) (a:Option Addr) (n c:Nat) (b:Option Addr) (m d:Nat) (a2:Option Addr) (n2 c2:Nat) (b2:Option Addr) (m2 d2:Nat):
 Lv (fun w=>Bx w (W.heap.size+1) a2 n2 c2 b2 m2 d2∧Bx w W.heap.size a n c b m d∧Below W.heap.size W w) ((W.alloc (.cells #[.slice a n c,.slice b m d] 25)).alloc (.cells #[.slice a2 n2 c2,.slice b2 m2 d2] 25)):=
 ⟨⟨Bx.two W _ _ _ _ _ _ _,(Bx.new W a n c b m d).alloc _,((Below.refl _ _).alloc (Nat.le_refl _) _).alloc (by simp) _⟩⟩
theorem live_pt {P:World→Prop} {w:World} {f:FuncId} {args:Array Value} {l:List Int} {es:List ByteArray} (h:Lv P w) (hc:Calls Tryz.prog f args w (PtEnd l es w))
 (hs:Stb P:=by repeat' (first|exact Stb.bel _|exact Stb.bx|exact Stb.vl|refine Stb.and ?_ ?_|exact Stb.triv)):
 Calls Tryz.prog f args w fun e w'=>∃a n c b m d,e=.returned (.agg #[.slice a n c,.slice b m d])∧Lv P w'∧Vl w' a n b m l es∧Cp n c m d:=
 hc.mono fun _ _ ⟨a,n,c,b,m,d,h1,h2,h3,h4⟩=>⟨a,n,c,b,m,d,h1,⟨hs _ _ h.out h4⟩,h2,h3⟩
theorem Ints_pt (a:Option Addr) (n c:Nat) (l:List Int) (W:World) (h:Sl W a n l) (hi:∀j,j<n→I64 (l.getD j 0)) (hn:n≤1000000) (ht:WT W):Calls Tryz.prog 27 #[.slice a n c] W (PtEnd [(n:Int)] (l.map S) W):=
 (Ints_is a n c l W h hi hn ht).mono fun _ _ ⟨g1,g2,h1,h2,h3⟩=>⟨_,_,_,_,_,_,h1,h2,⟨Nat.le_refl _,by unfold maxLen;omega,Nat.le_refl _,by unfold maxLen;omega⟩,h3⟩
theorem Scalar_pt (s:ByteArray) (W:World):Calls Tryz.prog 29 #[.string s] W (PtEnd [] [s] W):=
 (Scalar_is s W).mono fun _ _ ⟨g,h1,h2,h3⟩=>⟨_,_,_,_,_,_,h1,Vl.one h2,⟨Nat.le_refl _,by unfold maxLen;omega,Nat.le_refl _,by unfold maxLen;omega⟩,h3⟩
theorem Vector_pt (a:Option Addr) (n c:Nat) (es:List ByteArray) (W:World) (h:St W a n es) (hn:n≤1000000):Calls Tryz.prog 30 #[.slice a n c] W (PtEnd [(n:Int)] es W):=by
 have K:=Lib.hid (fun w (hb:Below W.heap.size W w)=>CloneS_o a n c es w (h.below hb) hn)
 clear h
 have hA:=Bx.new W none 0 0 none 0 0
 have hb0:Below W.heap.size W (W.alloc (.cells #[.slice none 0 0,.slice none 0 0] 25)):=(Below.refl _ _).alloc (Nat.le_refl _) _
 go_enter Tryz.func30,Tryz.ntmps30
 go_wp2_with fail
 have hb1:=hb0.alloc hb0.size (.cells #[.int .i64 n] 3)
 refine(K.out _ hb1).mono ?_
 rintro x w1 ⟨a',c',rfl,hs,hb⟩
 have hA2:=(hA.alloc (.cells #[.int .i64 n] 3)).below hb (by simp;omega)
 have hS:Sl ((W.alloc (.cells #[.slice none 0 0,.slice none 0 0] 25)).alloc (.cells #[.int .i64 n] 3)) (some ⟨W.heap.size+1,0,none⟩) 1 [(n:Int)]:=by
  have:=Sl.row (l:=[(n:Int)]) (heap_alloc_new (W.alloc (.cells #[.slice none 0 0,.slice none 0 0] 25)) (.cells #[.int .i64 n] 3))
  rw[World.size_alloc]at this
  exact this
 have hS2:=hS.below hb
 have hb2:=hb1.trans (hb.mono hb1.size)
 have y0:=hA2.c0
 have y1:=hA2.c1
 have f0:=hA2.f 0
 have f1:=hA2.f 1
 have HS:=Lib.hid (And.intro hS2 hs)
 clear hS hS2 hs hA hb0 hb1 hb
 go_wp2_with fail
 have hA3:=hA2.set (some ⟨W.heap.size+1,0,none⟩) 1 1 a' n c'
 have r0:=hA3.c0
 have r1:=hA3.c1
 exact bodyPost_ret (v:=.agg #[.slice (some ⟨W.heap.size+1,0,none⟩) 1 1,.slice a' n c']) (by simp[results,Tryz.results30,go_sem,r0,r1]) rfl
  ⟨_,_,_,_,_,_,rfl,⟨hA2.sl HS.out.1 _ _,hA2.st HS.out.2.st _ _,by omega⟩,⟨Nat.le_refl _,by unfold maxLen;omega,HS.out.2.caps.1,HS.out.2.caps.2⟩,below_made hb2 (Nat.le_refl _) _ _⟩
def coM:Option Ar→Option Ar→Int×Int×Int
 |some v,some w=>if(inM v).2≠0 then(0,0,(inM v).2)else if w.1=[]then(0,0,3)else((inM v).1,itV w.1,0)
 |_,_=>(0,0,1)
def CoEnd (r:Int×Int×Int) (W:World) (e:Ending) (W':World):Prop:=e=.returned (.tuple #[.int .i64 r.1,.int .i64 r.2.1,.int .i64 r.2.2])∧Below W.heap.size W W'
theorem co_v {a1 b1 a2 b2:Option Addr} {n1 c1 m1 d1 n2 c2 m2 d2:Nat} {l m:List Int} {es fs:List ByteArray} {W:World} (h1:Av W a1 n1 c1 b1 m1 d1 l es none):
 Calls Tryz.prog 145 #[.agg #[.slice a1 n1 c1,.slice b1 m1 d1],.agg #[.slice a2 n2 c2,.slice b2 m2 d2]] W (CoEnd (0,0,1) W):=by
 have KV:=Lib.hid (fun w (hb:Below W.heap.size W w)=>VMay_av (h1.below hb))
 clear h1
 have h:=live20 W a1 n1 c1 b1 m1 d1 a2 n2 c2 b2 m2 d2
 go_enter Tryz.func145,Tryz.ntmps145
 have x1:=h.out.2.1.c0
 have y1:=h.out.2.1.c1
 go_wp2_with fail
 with_reducible refine(live h (KV.out _ h.out.2.2)).mono ?_
 clear h x1 y1
 rintro e w ⟨rfl,h⟩
 go_wp2_with fail
 exact bodyPost_ret (v:=.tuple #[.int .i64 (0),.int .i64 (0),.int .i64 (1)]) (by simp[results,Tryz.results145,go_sem]) rfl ⟨rfl,h.out.2.2⟩
theorem co_w {a1 b1 a2 b2:Option Addr} {n1 c1 m1 d1 n2 c2 m2 d2:Nat} {l m:List Int} {es fs:List ByteArray} {W:World} {q:Ar} (h1:Av W a1 n1 c1 b1 m1 d1 l es (some q)) (h2:Av W a2 n2 c2 b2 m2 d2 m fs none):
 Calls Tryz.prog 145 #[.agg #[.slice a1 n1 c1,.slice b1 m1 d1],.agg #[.slice a2 n2 c2,.slice b2 m2 d2]] W (CoEnd (0,0,1) W):=by
 have KV:=Lib.hid (fun w (hb:Below W.heap.size W w)=>VMay_av (h1.below hb))
 have KU:=Lib.hid (fun w (hb:Below W.heap.size W w)=>VMay_av (h2.below hb))
 clear h1 h2
 have h:=live20 W a1 n1 c1 b1 m1 d1 a2 n2 c2 b2 m2 d2
 go_enter Tryz.func145,Tryz.ntmps145
 have x1:=h.out.2.1.c0
 have y1:=h.out.2.1.c1
 go_wp2_with fail
 with_reducible refine(live h (KV.out _ h.out.2.2)).mono ?_
 clear h x1 y1
 rintro e w ⟨rfl,h⟩
 have x2:=h.out.1.c0
 have y2:=h.out.1.c1
 go_wp2_with fail
 with_reducible refine(live h (KU.out _ h.out.2.2)).mono ?_
 clear h x2 y2
 rintro e w ⟨rfl,h⟩
 go_wp2_with fail
 exact bodyPost_ret (v:=.tuple #[.int .i64 (0),.int .i64 (0),.int .i64 (1)]) (by simp[results,Tryz.results145,go_sem]) rfl ⟨rfl,h.out.2.2⟩
theorem co_i {a1 b1 a2 b2:Option Addr} {n1 c1 m1 d1 n2 c2 m2 d2:Nat} {l m:List Int} {es fs:List ByteArray} {W:World} {q r:Ar} (h1:Av W a1 n1 c1 b1 m1 d1 l es (some q)) (h2:Av W a2 n2 c2 b2 m2 d2 m fs (some r)) (hW:WT W) (he:(inM q).2≠0):
 Calls Tryz.prog 145 #[.agg #[.slice a1 n1 c1,.slice b1 m1 d1],.agg #[.slice a2 n2 c2,.slice b2 m2 d2]] W (CoEnd (0,0,(inM q).2) W):=by
 have KV:=Lib.hid (fun w (hb:Below W.heap.size W w)=>VMay_av (h1.below hb))
 have KU:=Lib.hid (fun w (hb:Below W.heap.size W w)=>VMay_av (h2.below hb))
 have KI:=Lib.hid (fun w (hb:Below W.heap.size W w)=>VInt_av (h1.below hb) (hW.below hb))
 clear h1 h2 hW
 generalize (inM q).1=x at*
 generalize (inM q).2=k at*
 have hk:(k != 0)=true:=by simpa using he
 have h:=live20 W a1 n1 c1 b1 m1 d1 a2 n2 c2 b2 m2 d2
 go_enter Tryz.func145,Tryz.ntmps145
 have x1:=h.out.2.1.c0
 have y1:=h.out.2.1.c1
 go_wp2_with fail
 with_reducible refine(live h (KV.out _ h.out.2.2)).mono ?_
 clear h x1 y1
 rintro e w ⟨rfl,h⟩
 have x2:=h.out.1.c0
 have y2:=h.out.1.c1
 go_wp2_with fail
 with_reducible refine(live h (KU.out _ h.out.2.2)).mono ?_
 clear h x2 y2
 rintro e w ⟨rfl,h⟩
 have x1:=h.out.2.1.c0
 have y1:=h.out.2.1.c1
 go_wp2_with fail
 with_reducible refine(live h (KI.out _ h.out.2.2)).mono ?_
 clear h x1 y1
 rintro e w ⟨rfl,h⟩
 go_wp2_with fail
 exact bodyPost_ret (v:=.tuple #[.int .i64 (0),.int .i64 (0),.int .i64 (k)]) (by simp[results,Tryz.results145,go_sem]) rfl ⟨rfl,h.out.2.2⟩
theorem co_r {a1 b1 a2 b2:Option Addr} {n1 c1 m1 d1 n2 c2 m2 d2:Nat} {l m:List Int} {es fs:List ByteArray} {W:World} {q r:Ar} (h1:Av W a1 n1 c1 b1 m1 d1 l es (some q)) (h2:Av W a2 n2 c2 b2 m2 d2 m fs (some r)) (hW:WT W) (he:(inM q).2=0) (h0:n2=0):
 Calls Tryz.prog 145 #[.agg #[.slice a1 n1 c1,.slice b1 m1 d1],.agg #[.slice a2 n2 c2,.slice b2 m2 d2]] W (CoEnd (0,0,3) W):=by
 have KV:=Lib.hid (fun w (hb:Below W.heap.size W w)=>VMay_av (h1.below hb))
 have KU:=Lib.hid (fun w (hb:Below W.heap.size W w)=>VMay_av (h2.below hb))
 have KI:=Lib.hid (fun w (hb:Below W.heap.size W w)=>VInt_av (h1.below hb) (hW.below hb))
 rw[he]at KI
 have hn0:(n2:Int)=0:=by omega
 clear h1 h2 hW he h0
 generalize (inM q).1=x at*
 have h:=live20 W a1 n1 c1 b1 m1 d1 a2 n2 c2 b2 m2 d2
 go_enter Tryz.func145,Tryz.ntmps145
 have x1:=h.out.2.1.c0
 have y1:=h.out.2.1.c1
 go_wp2_with fail
 with_reducible refine(live h (KV.out _ h.out.2.2)).mono ?_
 clear h x1 y1
 rintro e w ⟨rfl,h⟩
 have x2:=h.out.1.c0
 have y2:=h.out.1.c1
 go_wp2_with fail
 with_reducible refine(live h (KU.out _ h.out.2.2)).mono ?_
 clear h x2 y2
 rintro e w ⟨rfl,h⟩
 have x1:=h.out.2.1.c0
 have y1:=h.out.2.1.c1
 go_wp2_with fail
 with_reducible refine(live h (KI.out _ h.out.2.2)).mono ?_
 clear h x1 y1
 rintro e w ⟨rfl,h⟩
 have x2:=h.out.1.c0
 have y2:=h.out.1.c1
 go_wp2_with fail
 exact bodyPost_ret (v:=.tuple #[.int .i64 (0),.int .i64 (0),.int .i64 (3)]) (by simp[results,Tryz.results145,go_sem]) rfl ⟨rfl,h.out.2.2⟩
theorem co_y {a1 b1 a2 b2:Option Addr} {n1 c1 m1 d1 n2 c2 m2 d2:Nat} {l m:List Int} {es fs:List ByteArray} {W:World} {q r:Ar} (h1:Av W a1 n1 c1 b1 m1 d1 l es (some q)) (h2:Av W a2 n2 c2 b2 m2 d2 m fs (some r)) (hW:WT W) (he:(inM q).2=0) (h0:0<n2):
 Calls Tryz.prog 145 #[.agg #[.slice a1 n1 c1,.slice b1 m1 d1],.agg #[.slice a2 n2 c2,.slice b2 m2 d2]] W (CoEnd ((inM q).1,itV m,0) W):=by
 have KV:=Lib.hid (fun w (hb:Below W.heap.size W w)=>VMay_av (h1.below hb))
 have KU:=Lib.hid (fun w (hb:Below W.heap.size W w)=>VMay_av (h2.below hb))
 have KI:=Lib.hid (fun w (hb:Below W.heap.size W w)=>VInt_av (h1.below hb) (hW.below hb))
 have KM:=Lib.hid (fun w (hb:Below W.heap.size W w)=>VMany_av (h2.below hb))
 rw[h2.items.2.1]at KM
 rw[he]at KI
 have hn0:(n2:Int)≠0:=by omega
 clear h1 h2 hW he h0
 generalize (inM q).1=x at*
 generalize itV m=N at*
 have h:=live20 W a1 n1 c1 b1 m1 d1 a2 n2 c2 b2 m2 d2
 go_enter Tryz.func145,Tryz.ntmps145
 have x1:=h.out.2.1.c0
 have y1:=h.out.2.1.c1
 go_wp2_with fail
 with_reducible refine(live h (KV.out _ h.out.2.2)).mono ?_
 clear h x1 y1
 rintro e w ⟨rfl,h⟩
 have x2:=h.out.1.c0
 have y2:=h.out.1.c1
 go_wp2_with fail
 with_reducible refine(live h (KU.out _ h.out.2.2)).mono ?_
 clear h x2 y2
 rintro e w ⟨rfl,h⟩
 have x1:=h.out.2.1.c0
 have y1:=h.out.2.1.c1
 go_wp2_with fail
 with_reducible refine(live h (KI.out _ h.out.2.2)).mono ?_
 clear h x1 y1
 rintro e w ⟨rfl,h⟩
 have x2:=h.out.1.c0
 have y2:=h.out.1.c1
 go_wp2_with fail
 refine(live h (KM.out _ h.out.2.2)).mono ?_
 clear h x2 y2
 rintro e w ⟨rfl,h⟩
 go_wp2_with fail
 exact bodyPost_ret (v:=.tuple #[.int .i64 (x),.int .i64 (N),.int .i64 (0)]) (by simp[results,Tryz.results145,go_sem]) rfl ⟨rfl,h.out.2.2⟩
theorem Co_is {a1 b1 a2 b2:Option Addr} {n1 c1 m1 d1 n2 c2 m2 d2:Nat} {l m:List Int} {es fs:List ByteArray} {W:World} {o p:Option Ar} (h1:Av W a1 n1 c1 b1 m1 d1 l es o) (h2:Av W a2 n2 c2 b2 m2 d2 m fs p) (hW:WT W):Calls Tryz.prog 145 #[.agg #[.slice a1 n1 c1,.slice b1 m1 d1],.agg #[.slice a2 n2 c2,.slice b2 m2 d2]] W (CoEnd (coM o p) W):=by
 cases o with
 |none=>exact co_v (m:=m) (fs:=fs) h1
 |some q=>
 cases p with
 |none=>exact co_w h1 h2
 |some r=>
 have hr:=h2.fst
 have hl:=h2.v.s.1
 by_cases he:(inM q).2=0
 · by_cases h0:n2=0
   · have e:coM (some q) (some r)=(0,0,3):=by
      unfold coM
      dsimp only
      rw[if_neg (fun h=>h he),if_pos (by rw[hr];exact List.length_eq_zero_iff.1 (hl.trans h0))]
     rw[e]
     exact co_r h1 h2 hW he h0
   · have e:coM (some q) (some r)=((inM q).1,itV m,0):=by
      unfold coM
      dsimp only
      rw[if_neg (fun h=>h he),if_neg (by rw[hr];intro e;rw[e]at hl;exact h0 hl.symm),hr]
     rw[e]
     exact co_y h1 h2 hW he (by omega)
 · have e:coM (some q) (some r)=(0,0,(inM q).2):=by
    unfold coM
    dsimp only
    rw[if_pos he]
   rw[e]
   exact co_i h1 h2 hW he
theorem co_cases {o p:Option Ar}:(coM o p).2.2≠0∧(coM o p).1=0∧(coM o p).2.1=0∨∃q r,o=some q∧p=some r∧(inM q).2=0∧r.1≠[]∧coM o p=((inM q).1,itV r.1,0):=by
 cases o with
 |none=>exact .inl ⟨by simp[coM],rfl,rfl⟩
 |some q=>
 cases p with
 |none=>exact .inl ⟨by simp[coM],rfl,rfl⟩
 |some r=>
 unfold coM
 dsimp only
 by_cases he:(inM q).2=0
 · rw[if_neg (fun h=>h he)]
   by_cases h0:r.1=[]
   · rw[if_pos h0];exact .inl ⟨by decide,rfl,rfl⟩
   · rw[if_neg h0];exact .inr ⟨q,r,rfl,rfl,he,h0,rfl⟩
 · rw[if_pos he];exact .inl ⟨he,rfl,rfl⟩
theorem inM_near {v:Ar} (h:(inM v).2=0): -1099511627776≤(inM v).1∧(inM v).1≤1099511627776:=by
 unfold inM at h ⊢
 split
 · rename_i hc;rw[if_pos hc]at h;cases h
 · rename_i hc
   rw[if_neg hc]at h
   split
   · rename_i hn;exact nearM_yes.1 hn
   · rename_i hn;rw[if_neg hn]at h;cases h
theorem ctM_map (l:List Int) (xs:List Int) (f t:Nat):ctM l (xs.map S) f t=(ctM l xs f t).map S:=by
 unfold ctM
 rw[List.map_take,List.map_drop]
theorem cu_rok {w:Ar} (h:Fits w.1 w.2) (hl:w.1≠[]) {f t:Nat} (hft:f≤t) (ht:t≤nI w.1) (hb:∀x∈w.2,x.natAbs<lim):Rok (some (cuM w f t)):=by
 have h2:=cuM_fits h hl hft ht
 exact⟨szE_may.2 h2.1,h2.2,fun x hx=>hb x (List.mem_of_mem_drop (List.mem_of_mem_take hx))⟩
theorem mN_nI {l:List Int} (h:l≠[]):mN l=nI l:=by
 unfold mN nI itV
 rw[if_neg fun e=>h (List.length_eq_zero_iff.1 e)]
theorem itV_hd {l:List Int} (h:l≠[]):itV l=l.getD 0 0:=if_neg fun e=>h (List.length_eq_zero_iff.1 e)
theorem Part_cu {a1 b1:Option Addr} {n1 c1 m1 d1:Nat} {l:List Int} {es:List ByteArray} {W:World} {q:Ar} (h1:Av W a1 n1 c1 b1 m1 d1 l es (some q)) (hn:0<n1) {f t:Nat} (hft:f≤t) (ht:t≤mN l):
 Calls Tryz.prog 146 #[.agg #[.slice a1 n1 c1,.slice b1 m1 d1],.int .i64 f,.int .i64 t] W (PtEnd (TS (some (cuM q f t))).1 (TS (some (cuM q f t))).2 W):=by
 have h:=Part_is h1 hn hft ht
 rw[h1.i.2.1,ctM_map]at h
 have e:=h1.fst
 subst e
 exact h
theorem tk_no {a1 b1 a2 b2:Option Addr} {n1 c1 m1 d1 n2 c2 m2 d2:Nat} {l m:List Int} {es fs:List ByteArray} {W:World} {o p:Option Ar} (h1:Av W a1 n1 c1 b1 m1 d1 l es o) (h2:Av W a2 n2 c2 b2 m2 d2 m fs p) (hW:WT W) (hco:(coM o p).2.2≠0∧(coM o p).1=0∧(coM o p).2.1=0):
 Calls Tryz.prog 102 #[.agg #[.slice a1 n1 c1,.slice b1 m1 d1],.agg #[.slice a2 n2 c2,.slice b2 m2 d2]] W (MEnd (none,(coM o p).2.2) W):=by
 have KC:=Lib.hid (fun w (hb:Below W.heap.size W w)=>Co_is (h1.below hb) (h2.below hb) (hW.below hb))
 obtain⟨k1,k2,k3⟩:=hco
 rw[show coM o p=(0,0,(coM o p).2.2)from Prod.ext k2 (Prod.ext k3 rfl)]at KC
 generalize (coM o p).2.2=k at*
 have hk:(k != 0)=true:=by simpa using k1
 clear h1 h2 hW k2 k3
 have h:=live2 W a1 n1 c1 b1 m1 d1 a2 n2 c2 b2 m2 d2
 go_enter Tryz.func102,Tryz.ntmps102
 have x1:=h.out.2.2.1.c0
 have y1:=h.out.2.2.1.c1
 have x2:=h.out.2.1.c0
 have y2:=h.out.2.1.c1
 go_wp2_with fail
 with_reducible refine(live h (KC.out _ h.out.2.2.2)).mono ?_
 clear h x1 y1 x2 y2
 rintro e w ⟨rfl,h⟩
 have y0:=h.out.1.c0
 have y3:=h.out.1.c1
 have f0:=h.out.1.f 0
 have f1:=h.out.1.f 1
 go_wp2_with fail
 have hR:=h.out.1.set none 0 0 none 0 0
 have r0:=hR.c0
 have r1:=hR.c1
 exact bodyPost_ret (v:=.tuple #[.agg #[.slice none 0 0,.slice none 0 0],.int .i64 k]) (by simp[results,Tryz.results102,go_sem,r0,r1]) rfl (mend_no h.out.1 h.out.2.2.2 (by omega))
theorem dr_no {a1 b1 a2 b2:Option Addr} {n1 c1 m1 d1 n2 c2 m2 d2:Nat} {l m:List Int} {es fs:List ByteArray} {W:World} {o p:Option Ar} (h1:Av W a1 n1 c1 b1 m1 d1 l es o) (h2:Av W a2 n2 c2 b2 m2 d2 m fs p) (hW:WT W) (hco:(coM o p).2.2≠0∧(coM o p).1=0∧(coM o p).2.1=0):
 Calls Tryz.prog 103 #[.agg #[.slice a1 n1 c1,.slice b1 m1 d1],.agg #[.slice a2 n2 c2,.slice b2 m2 d2]] W (MEnd (none,(coM o p).2.2) W):=by
 have KC:=Lib.hid (fun w (hb:Below W.heap.size W w)=>Co_is (h1.below hb) (h2.below hb) (hW.below hb))
 obtain⟨k1,k2,k3⟩:=hco
 rw[show coM o p=(0,0,(coM o p).2.2)from Prod.ext k2 (Prod.ext k3 rfl)]at KC
 generalize (coM o p).2.2=k at*
 have hk:(k != 0)=true:=by simpa using k1
 clear h1 h2 hW k2 k3
 have h:=live2 W a1 n1 c1 b1 m1 d1 a2 n2 c2 b2 m2 d2
 go_enter Tryz.func103,Tryz.ntmps103
 have x1:=h.out.2.2.1.c0
 have y1:=h.out.2.2.1.c1
 have x2:=h.out.2.1.c0
 have y2:=h.out.2.1.c1
 go_wp2_with fail
 with_reducible refine(live h (KC.out _ h.out.2.2.2)).mono ?_
 clear h x1 y1 x2 y2
 rintro e w ⟨rfl,h⟩
 have y0:=h.out.1.c0
 have y3:=h.out.1.c1
 have f0:=h.out.1.f 0
 have f1:=h.out.1.f 1
 go_wp2_with fail
 have hR:=h.out.1.set none 0 0 none 0 0
 have r0:=hR.c0
 have r1:=hR.c1
 exact bodyPost_ret (v:=.tuple #[.agg #[.slice none 0 0,.slice none 0 0],.int .i64 k]) (by simp[results,Tryz.results103,go_sem,r0,r1]) rfl (mend_no h.out.1 h.out.2.2.2 (by omega))
theorem tk_far {a1 b1 a2 b2:Option Addr} {n1 c1 m1 d1 n2 c2 m2 d2:Nat} {l m:List Int} {es fs:List ByteArray} {W:World} {x:Int} {N:Nat} {q r:Ar} (h1:Av W a1 n1 c1 b1 m1 d1 l es (some q)) (h2:Av W a2 n2 c2 b2 m2 d2 m fs (some r)) (hW:WT W) (hco:coM (some q) (some r)=(x,(N:Int),0)) (hb: -1099511627776≤x∧x≤1099511627776) (hx:0≤x∧(N:Int)<x∨x<0∧(N:Int)< -x):
 Calls Tryz.prog 102 #[.agg #[.slice a1 n1 c1,.slice b1 m1 d1],.agg #[.slice a2 n2 c2,.slice b2 m2 d2]] W (MEnd (none,6) W):=by
 have KC:=Lib.hid (fun w (hb:Below W.heap.size W w)=>Co_is (h1.below hb) (h2.below hb) (hW.below hb))
 rw[hco]at KC
 clear h1 h2 hW hco
 rcases hx with⟨g1,g2⟩|⟨g1,g2⟩
 ·
  have hn1:IntKind.i64.wrap (-x)= -x:=IntWalk.i64_in _ (by omega)
  have hmx: -x≤x:=by omega
  have h:=live2 W a1 n1 c1 b1 m1 d1 a2 n2 c2 b2 m2 d2
  go_enter Tryz.func102,Tryz.ntmps102
  have x1:=h.out.2.2.1.c0
  have y1:=h.out.2.2.1.c1
  have x2:=h.out.2.1.c0
  have y2:=h.out.2.1.c1
  go_wp2_with fail
  with_reducible refine(live h (KC.out _ h.out.2.2.2)).mono ?_
  clear h x1 y1 x2 y2
  rintro e w ⟨rfl,h⟩
  have y0:=h.out.1.c0
  have y3:=h.out.1.c1
  have f0:=h.out.1.f 0
  have f1:=h.out.1.f 1
  go_wp2_with fail
  have hR:=h.out.1.set none 0 0 none 0 0
  have r0:=hR.c0
  have r1:=hR.c1
  exact bodyPost_ret (v:=.tuple #[.agg #[.slice none 0 0,.slice none 0 0],.int .i64 6]) (by simp[results,Tryz.results102,go_sem,r0,r1]) rfl (mend_no h.out.1 h.out.2.2.2 (by omega))
 ·
  have hn1:IntKind.i64.wrap (-x)= -x:=IntWalk.i64_in _ (by omega)
  have hmx:¬(-x≤x):=by omega
  have h:=live2 W a1 n1 c1 b1 m1 d1 a2 n2 c2 b2 m2 d2
  go_enter Tryz.func102,Tryz.ntmps102
  have x1:=h.out.2.2.1.c0
  have y1:=h.out.2.2.1.c1
  have x2:=h.out.2.1.c0
  have y2:=h.out.2.1.c1
  go_wp2_with fail
  with_reducible refine(live h (KC.out _ h.out.2.2.2)).mono ?_
  clear h x1 y1 x2 y2
  rintro e w ⟨rfl,h⟩
  have y0:=h.out.1.c0
  have y3:=h.out.1.c1
  have f0:=h.out.1.f 0
  have f1:=h.out.1.f 1
  go_wp2_with fail
  have hR:=h.out.1.set none 0 0 none 0 0
  have r0:=hR.c0
  have r1:=hR.c1
  exact bodyPost_ret (v:=.tuple #[.agg #[.slice none 0 0,.slice none 0 0],.int .i64 6]) (by simp[results,Tryz.results102,go_sem,r0,r1]) rfl (mend_no h.out.1 h.out.2.2.2 (by omega))
theorem tk_neg {a1 b1 a2 b2:Option Addr} {n1 c1 m1 d1 n2 c2 m2 d2:Nat} {l m:List Int} {es fs:List ByteArray} {W:World} {x:Int} {N t:Nat} {q r:Ar} (h1:Av W a1 n1 c1 b1 m1 d1 l es (some q)) (h2:Av W a2 n2 c2 b2 m2 d2 m fs (some r)) (hW:WT W) (hco:coM (some q) (some r)=(x,(N:Int),0)) (hn2:0<n2) (hN:N=mN m) (hNb:N≤1099511627776) (hxt:x= -(t:Int)) (ht0:0<t) (htN:t≤N) (hrok:Rok (some (cuM r (N-t) N))):
 Calls Tryz.prog 102 #[.agg #[.slice a1 n1 c1,.slice b1 m1 d1],.agg #[.slice a2 n2 c2,.slice b2 m2 d2]] W (MEnd (some (cuM r (N-t) N),0) W):=by
 have KC:=Lib.hid (fun w (hb:Below W.heap.size W w)=>Co_is (h1.below hb) (h2.below hb) (hW.below hb))
 rw[hco]at KC
 have KP:=Lib.hid (fun w (hb:Below W.heap.size W w)=>Part_cu (h2.below hb) hn2 (f:=N-t) (t:=N) (by omega) (by rw[hN];exact Nat.le_refl _))
 have HR:=Lib.hid hrok
 have hn1:IntKind.i64.wrap (-x)=(t:Int):=by rw[hxt,Int.neg_neg];exact IntWalk.i64_in _ (by omega)
 have hn3:IntKind.i64.wrap ((N:Int)+x)=((N-t:Nat):Int):=by rw[hxt,show(N:Int)+ -(t:Int)=((N-t:Nat):Int)by omega];exact IntWalk.i64_in _ (by omega)
 have hx0:x<0:=by omega
 have hmx:¬((t:Int)≤x):=by omega
 have hle:¬((N:Int)<(t:Int)):=by omega
 obtain⟨u,hu⟩:∃u,u=N-t:=⟨_,rfl⟩
 rw[←hu]at KP HR hn3 ⊢
 clear h1 h2 hW hco hxt hu hrok hN ht0 htN
 have h:=live2 W a1 n1 c1 b1 m1 d1 a2 n2 c2 b2 m2 d2
 go_enter Tryz.func102,Tryz.ntmps102
 have x1:=h.out.2.2.1.c0
 have y1:=h.out.2.2.1.c1
 have x2:=h.out.2.1.c0
 have y2:=h.out.2.1.c1
 go_wp2_with fail
 with_reducible refine(live h (KC.out _ h.out.2.2.2)).mono ?_
 clear h x1 y1 x2 y2
 rintro e w ⟨rfl,h⟩
 have x2:=h.out.2.1.c0
 have y2:=h.out.2.1.c1
 have y0:=h.out.1.c0
 have y3:=h.out.1.c1
 have f0:=h.out.1.f 0
 have f1:=h.out.1.f 1
 go_wp2_with fail
 with_reducible refine(live_pt h (KP.out _ h.out.2.2.2)).mono ?_
 clear h y0 y3 f0 f1 x2 y2
 rintro e w ⟨ar,nr,cr,br,mr,dr,rfl,h,hv,hc⟩
 have y0:=h.out.1.c0
 have y3:=h.out.1.c1
 have f0:=h.out.1.f 0
 have f1:=h.out.1.f 1
 go_wp2_with fail
 have hR:=h.out.1.set ar nr cr br mr dr
 have r0:=hR.c0
 have r1:=hR.c1
 exact bodyPost_ret (v:=.tuple #[.agg #[.slice ar nr cr,.slice br mr dr],.int .i64 0]) (by simp[results,Tryz.results102,go_sem,r0,r1]) rfl (mend_box (r:=_) h.out.1 h.out.2.2.2 (by omega) hv hc HR.out)
theorem tk_pos {a1 b1 a2 b2:Option Addr} {n1 c1 m1 d1 n2 c2 m2 d2:Nat} {l m:List Int} {es fs:List ByteArray} {W:World} {x:Int} {N t:Nat} {q r:Ar} (h1:Av W a1 n1 c1 b1 m1 d1 l es (some q)) (h2:Av W a2 n2 c2 b2 m2 d2 m fs (some r)) (hW:WT W) (hco:coM (some q) (some r)=(x,(N:Int),0)) (hn2:0<n2) (hN:N=mN m) (hNb:N≤1099511627776) (hxt:x=(t:Int)) (htN:t≤N) (hrok:Rok (some (cuM r 0 t))):
 Calls Tryz.prog 102 #[.agg #[.slice a1 n1 c1,.slice b1 m1 d1],.agg #[.slice a2 n2 c2,.slice b2 m2 d2]] W (MEnd (some (cuM r 0 t),0) W):=by
 have KC:=Lib.hid (fun w (hb:Below W.heap.size W w)=>Co_is (h1.below hb) (h2.below hb) (hW.below hb))
 rw[hco]at KC
 have KP:=Lib.hid (fun w (hb:Below W.heap.size W w)=>Part_cu (h2.below hb) hn2 (f:=0) (t:=t) (Nat.zero_le _) (by rw[←hN];exact htN))
 rw[show((0:Nat):Int)=0 from rfl]at KP
 have HR:=Lib.hid hrok
 subst hxt
 have hn1:IntKind.i64.wrap (-(t:Int))= -(t:Int):=IntWalk.i64_in _ (by omega)
 have hmx: -(t:Int)≤(t:Int):=by omega
 have hle:¬((N:Int)<(t:Int)):=by omega
 have hx0:¬((t:Int)<0):=by omega
 clear h1 h2 hW hco hrok hN htN
 have h:=live2 W a1 n1 c1 b1 m1 d1 a2 n2 c2 b2 m2 d2
 go_enter Tryz.func102,Tryz.ntmps102
 have x1:=h.out.2.2.1.c0
 have y1:=h.out.2.2.1.c1
 have x2:=h.out.2.1.c0
 have y2:=h.out.2.1.c1
 go_wp2_with fail
 with_reducible refine(live h (KC.out _ h.out.2.2.2)).mono ?_
 clear h x1 y1 x2 y2
 rintro e w ⟨rfl,h⟩
 have x2:=h.out.2.1.c0
 have y2:=h.out.2.1.c1
 have y0:=h.out.1.c0
 have y3:=h.out.1.c1
 have f0:=h.out.1.f 0
 have f1:=h.out.1.f 1
 go_wp2_with fail
 with_reducible refine(live_pt h (KP.out _ h.out.2.2.2)).mono ?_
 clear h y0 y3 f0 f1 x2 y2
 rintro e w ⟨ar,nr,cr,br,mr,dr,rfl,h,hv,hc⟩
 have y0:=h.out.1.c0
 have y3:=h.out.1.c1
 have f0:=h.out.1.f 0
 have f1:=h.out.1.f 1
 go_wp2_with fail
 have hR:=h.out.1.set ar nr cr br mr dr
 have r0:=hR.c0
 have r1:=hR.c1
 exact bodyPost_ret (v:=.tuple #[.agg #[.slice ar nr cr,.slice br mr dr],.int .i64 0]) (by simp[results,Tryz.results102,go_sem,r0,r1]) rfl (mend_box (r:=_) h.out.1 h.out.2.2.2 (by omega) hv hc HR.out)
theorem dr_neg {a1 b1 a2 b2:Option Addr} {n1 c1 m1 d1 n2 c2 m2 d2:Nat} {l m:List Int} {es fs:List ByteArray} {W:World} {x:Int} {N t:Nat} {q r:Ar} (h1:Av W a1 n1 c1 b1 m1 d1 l es (some q)) (h2:Av W a2 n2 c2 b2 m2 d2 m fs (some r)) (hW:WT W) (hco:coM (some q) (some r)=(x,(N:Int),0)) (hn2:0<n2) (hN:N=mN m) (hNb:N≤1099511627776) (hxt:x= -(t:Int)) (ht0:0<t) (htb:t≤1099511627776) (hrok:Rok (some (cuM r 0 (N-t)))):
 Calls Tryz.prog 103 #[.agg #[.slice a1 n1 c1,.slice b1 m1 d1],.agg #[.slice a2 n2 c2,.slice b2 m2 d2]] W (MEnd (some (cuM r 0 (N-t)),0) W):=by
 have KC:=Lib.hid (fun w (hb:Below W.heap.size W w)=>Co_is (h1.below hb) (h2.below hb) (hW.below hb))
 rw[hco]at KC
 have KP:=Lib.hid (fun w (hb:Below W.heap.size W w)=>Part_cu (h2.below hb) hn2 (f:=0) (t:=N-t) (Nat.zero_le _) (by rw[←hN];omega))
 have HR:=Lib.hid hrok
 obtain⟨z,hz⟩:∃z:Int,z=(N:Int)+x:=⟨_,rfl⟩
 have hn3:IntKind.i64.wrap ((N:Int)+x)=z:=by rw[←hz];exact IntWalk.i64_in _ (by omega)
 have hx0:x<0:=by omega
 obtain⟨u,hu⟩:∃u,u=N-t:=⟨_,rfl⟩
 rw[←hu]at KP HR ⊢
 have hmax:max z 0=(u:Int):=by omega
 rw[show((0:Nat):Int)=0 from rfl]at KP
 clear h1 h2 hW hco hxt hu hrok hN ht0 hz
 have h:=live2 W a1 n1 c1 b1 m1 d1 a2 n2 c2 b2 m2 d2
 go_enter Tryz.func103,Tryz.ntmps103
 have x1:=h.out.2.2.1.c0
 have y1:=h.out.2.2.1.c1
 have x2:=h.out.2.1.c0
 have y2:=h.out.2.1.c1
 go_wp2_with fail
 with_reducible refine(live h (KC.out _ h.out.2.2.2)).mono ?_
 clear h x1 y1 x2 y2
 rintro e w ⟨rfl,h⟩
 have x2:=h.out.2.1.c0
 have y2:=h.out.2.1.c1
 have y0:=h.out.1.c0
 have y3:=h.out.1.c1
 have f0:=h.out.1.f 0
 have f1:=h.out.1.f 1
 go_wp2_with fail
 with_reducible refine(live_pt h (KP.out _ h.out.2.2.2)).mono ?_
 clear h y0 y3 f0 f1 x2 y2
 rintro e w ⟨ar,nr,cr,br,mr,dr,rfl,h,hv,hc⟩
 have y0:=h.out.1.c0
 have y3:=h.out.1.c1
 have f0:=h.out.1.f 0
 have f1:=h.out.1.f 1
 go_wp2_with fail
 have hR:=h.out.1.set ar nr cr br mr dr
 have r0:=hR.c0
 have r1:=hR.c1
 exact bodyPost_ret (v:=.tuple #[.agg #[.slice ar nr cr,.slice br mr dr],.int .i64 0]) (by simp[results,Tryz.results103,go_sem,r0,r1]) rfl (mend_box (r:=_) h.out.1 h.out.2.2.2 (by omega) hv hc HR.out)
theorem dr_pos {a1 b1 a2 b2:Option Addr} {n1 c1 m1 d1 n2 c2 m2 d2:Nat} {l m:List Int} {es fs:List ByteArray} {W:World} {x:Int} {N t:Nat} {q r:Ar} (h1:Av W a1 n1 c1 b1 m1 d1 l es (some q)) (h2:Av W a2 n2 c2 b2 m2 d2 m fs (some r)) (hW:WT W) (hco:coM (some q) (some r)=(x,(N:Int),0)) (hn2:0<n2) (hN:N=mN m) (hNb:N≤1099511627776) (hxt:x=(t:Int)) (htb:t≤1099511627776) (hrok:Rok (some (cuM r (min t N) N))):
 Calls Tryz.prog 103 #[.agg #[.slice a1 n1 c1,.slice b1 m1 d1],.agg #[.slice a2 n2 c2,.slice b2 m2 d2]] W (MEnd (some (cuM r (min t N) N),0) W):=by
 have KC:=Lib.hid (fun w (hb:Below W.heap.size W w)=>Co_is (h1.below hb) (h2.below hb) (hW.below hb))
 rw[hco]at KC
 have KP:=Lib.hid (fun w (hb:Below W.heap.size W w)=>Part_cu (h2.below hb) hn2 (f:=min t N) (t:=N) (Nat.min_le_right _ _) (by rw[hN];exact Nat.le_refl _))
 have HR:=Lib.hid hrok
 subst hxt
 have hx0:¬((t:Int)<0):=by omega
 obtain⟨u,hu⟩:∃u,u=min t N:=⟨_,rfl⟩
 rw[←hu]at KP HR ⊢
 have hmin:min (t:Int) (N:Int)=(u:Int):=by omega
 clear h1 h2 hW hco hu hrok hN
 have h:=live2 W a1 n1 c1 b1 m1 d1 a2 n2 c2 b2 m2 d2
 go_enter Tryz.func103,Tryz.ntmps103
 have x1:=h.out.2.2.1.c0
 have y1:=h.out.2.2.1.c1
 have x2:=h.out.2.1.c0
 have y2:=h.out.2.1.c1
 go_wp2_with fail
 with_reducible refine(live h (KC.out _ h.out.2.2.2)).mono ?_
 clear h x1 y1 x2 y2
 rintro e w ⟨rfl,h⟩
 have x2:=h.out.2.1.c0
 have y2:=h.out.2.1.c1
 have y0:=h.out.1.c0
 have y3:=h.out.1.c1
 have f0:=h.out.1.f 0
 have f1:=h.out.1.f 1
 go_wp2_with fail
 with_reducible refine(live_pt h (KP.out _ h.out.2.2.2)).mono ?_
 clear h y0 y3 f0 f1 x2 y2
 rintro e w ⟨ar,nr,cr,br,mr,dr,rfl,h,hv,hc⟩
 have y0:=h.out.1.c0
 have y3:=h.out.1.c1
 have f0:=h.out.1.f 0
 have f1:=h.out.1.f 1
 go_wp2_with fail
 have hR:=h.out.1.set ar nr cr br mr dr
 have r0:=hR.c0
 have r1:=hR.c1
 exact bodyPost_ret (v:=.tuple #[.agg #[.slice ar nr cr,.slice br mr dr],.int .i64 0]) (by simp[results,Tryz.results103,go_sem,r0,r1]) rfl (mend_box (r:=_) h.out.1 h.out.2.2.2 (by omega) hv hc HR.out)
theorem MTake_is {a1 b1 a2 b2:Option Addr} {n1 c1 m1 d1 n2 c2 m2 d2:Nat} {l m:List Int} {es fs:List ByteArray} {W:World} {o p:Option Ar} (h1:Av W a1 n1 c1 b1 m1 d1 l es o) (h2:Av W a2 n2 c2 b2 m2 d2 m fs p) (hW:WT W):Calls Tryz.prog 102 #[.agg #[.slice a1 n1 c1,.slice b1 m1 d1],.agg #[.slice a2 n2 c2,.slice b2 m2 d2]] W (MEnd (tkM o p) W):=by
 rcases co_cases (o:=o) (p:=p)with hc|⟨q,r,rfl,rfl,he,hr,hc⟩
 · have e:tkM o p=(none,(coM o p).2.2):=by
    cases o with
    |none=>rfl
    |some q=>
    cases p with
    |none=>rfl
    |some r=>
    have h:=hc.1
    unfold coM at h ⊢
    unfold tkM
    dsimp only at h ⊢
    by_cases he:(inM q).2=0
    · rw[if_neg (fun h=>h he)]at h ⊢
      by_cases h0:r.1=[]
      · rw[if_pos h0,if_pos h0,if_neg (fun g=>g he)]
      · rw[if_neg h0]at h;exact absurd rfl h
    · rw[if_pos he,if_pos he]
   rw[e]
   exact tk_no h1 h2 hW hc
 · have hf:=h2.fits
   have hm:=h2.fst
   have hb:=h2.i.2.2.2
   have hnn:0<n2:=by
    rcases Nat.eq_zero_or_pos n2 with h0|h0
    · have:=h2.v.s.1
      rw[h0]at this
      exact absurd (hm.trans (List.length_eq_zero_iff.1 this)) hr
    · exact h0
   have hN1:=h2.items.2.1
   have hNb:=h2.items.2.2.1
   have hx:=inM_near he
   rw[hm,←hN1]at hc
   have hnI:mN m=nI r.1:=by rw[←hm];exact mN_nI hr
   have hd:r.1.getD 0 0=(mN m:Int):=by rw[hN1,←hm];exact(itV_hd hr).symm
   by_cases hfar:0≤(inM q).1∧(mN m:Int)<(inM q).1∨(inM q).1<0∧(mN m:Int)< -(inM q).1
   · have e:tkM (some q) (some r)=(none,6):=by
      unfold tkM
      dsimp only
      rw[if_neg (fun h=>h he),if_neg hr,if_pos (by rw[hd];omega)]
     rw[e]
     exact tk_far h1 h2 hW hc hx hfar
   · by_cases h0:(inM q).1<0
     · obtain⟨t,ht⟩:∃t:Nat,(inM q).1= -(t:Int):=⟨(-(inM q).1).toNat,by omega⟩
       have e:tkM (some q) (some r)=(some (cuM r (mN m-t) (mN m)),0):=by
        unfold tkM
        dsimp only
        rw[if_neg (fun h=>h he),if_neg hr,if_neg (by rw[hd];omega),if_pos h0,←hnI,show(-(inM q).1).toNat=t by omega]
       rw[e]
       exact tk_neg h1 h2 hW hc hnn rfl hNb ht (by omega) (by omega) (cu_rok hf hr (by omega) (by rw[hnI];exact Nat.le_refl _) hb)
     · obtain⟨t,ht⟩:∃t:Nat,(inM q).1=(t:Int):=⟨(inM q).1.toNat,by omega⟩
       have e:tkM (some q) (some r)=(some (cuM r 0 t),0):=by
        unfold tkM
        dsimp only
        rw[if_neg (fun h=>h he),if_neg hr,if_neg (by rw[hd];omega),if_neg h0,show(inM q).1.toNat=t by omega]
       rw[e]
       exact tk_pos h1 h2 hW hc hnn rfl hNb ht (by omega) (cu_rok hf hr (Nat.zero_le _) (by rw[←hnI];omega) hb)
theorem MDrop_is {a1 b1 a2 b2:Option Addr} {n1 c1 m1 d1 n2 c2 m2 d2:Nat} {l m:List Int} {es fs:List ByteArray} {W:World} {o p:Option Ar} (h1:Av W a1 n1 c1 b1 m1 d1 l es o) (h2:Av W a2 n2 c2 b2 m2 d2 m fs p) (hW:WT W):Calls Tryz.prog 103 #[.agg #[.slice a1 n1 c1,.slice b1 m1 d1],.agg #[.slice a2 n2 c2,.slice b2 m2 d2]] W (MEnd (drM o p) W):=by
 rcases co_cases (o:=o) (p:=p)with hc|⟨q,r,rfl,rfl,he,hr,hc⟩
 · have e:drM o p=(none,(coM o p).2.2):=by
    cases o with
    |none=>rfl
    |some q=>
    cases p with
    |none=>rfl
    |some r=>
    have h:=hc.1
    unfold coM at h ⊢
    unfold drM
    dsimp only at h ⊢
    by_cases he:(inM q).2=0
    · rw[if_neg (fun h=>h he)]at h ⊢
      by_cases h0:r.1=[]
      · rw[if_pos h0,if_pos h0,if_neg (fun g=>g he)]
      · rw[if_neg h0]at h;exact absurd rfl h
    · rw[if_pos he,if_pos he]
   rw[e]
   exact dr_no h1 h2 hW hc
 · have hf:=h2.fits
   have hm:=h2.fst
   have hb:=h2.i.2.2.2
   have hnn:0<n2:=by
    rcases Nat.eq_zero_or_pos n2 with h0|h0
    · have:=h2.v.s.1
      rw[h0]at this
      exact absurd (hm.trans (List.length_eq_zero_iff.1 this)) hr
    · exact h0
   have hN1:=h2.items.2.1
   have hNb:=h2.items.2.2.1
   have hx:=inM_near he
   rw[hm,←hN1]at hc
   have hnI:mN m=nI r.1:=by rw[←hm];exact mN_nI hr
   by_cases h0:(inM q).1<0
   · obtain⟨t,ht⟩:∃t:Nat,(inM q).1= -(t:Int):=⟨(-(inM q).1).toNat,by omega⟩
     have e:drM (some q) (some r)=(some (cuM r 0 (mN m-t)),0):=by
      unfold drM
      dsimp only
      rw[if_neg (fun h=>h he),if_neg hr,if_pos h0,←hnI,show(-(inM q).1).toNat=t by omega]
     rw[e]
     exact dr_neg h1 h2 hW hc hnn rfl hNb ht (by omega) (by omega) (cu_rok hf hr (Nat.zero_le _) (by rw[←hnI];omega) hb)
   · obtain⟨t,ht⟩:∃t:Nat,(inM q).1=(t:Int):=⟨(inM q).1.toNat,by omega⟩
     have e:drM (some q) (some r)=(some (cuM r (min t (mN m)) (mN m)),0):=by
      unfold drM
      dsimp only
      rw[if_neg (fun h=>h he),if_neg hr,if_neg h0,←hnI,show(inM q).1.toNat=t by omega]
     rw[e]
     exact dr_pos h1 h2 hW hc hnn rfl hNb ht (by omega) (cu_rok hf hr (Nat.min_le_right _ _) (by rw[hnI];exact Nat.le_refl _) hb)
end Go.Proofs.YtbijncndjlmmdaaGreatDoor

import Derived.Test.YtcfbjdplhgdpfaaGreatDoorTbi
set_option maxHeartbeats 6400000
set_option maxRecDepth 100000
namespace Go.Proofs.YtcfbjdplhgdpfaaGreatDoor
set_option linter.unusedVariables false
set_option linter.unusedSimpArgs false
theorem zHm {P:Prop}(h:P:=by simp[results,Tryz.results104,go_sem,r0,r1]):P:=h
abbrev yK2:=@Go.WideMaps.keyOf_string_mk
section
open Go.RowKit
def PlO (q:Ar) (many:Int) (W:World) (e:Ending) (W':World):Prop:=
 ∃a n c,e=.returned (.tuple #[.slice a n c,.int .i64 (plE q many)])∧(plE q many=0→n=q.2.length∧Sl W' a n q.2∧n≤c∧c≤maxLen)∧Below W.heap.size W W'
theorem zKh {q:Ar} {many:Int} (h:q.2.all zWd=false):plE q many=5:=by
 unfold plE;rw[yA h]
theorem zLh {q:Ar} {many:Int} (h:q.2.all zWd=true) {j:Nat} (hj:j<q.2.length) (h2:q.2.getD j 0<0∨many≤q.2.getD j 0):plE q many=6:=by
 unfold plE;rw[h,zY yHn,yA];refine⟨q.2[j],xH hj,?_⟩;rw[yJ,yM hj,yS]at h2;exact h2
theorem zMh {q:Ar} {many:Int} (h:q.2.all zWd=true) (h2:∀j,j<q.2.length→¬(q.2.getD j 0<0∨many≤q.2.getD j 0)):plE q many=0:=by
 unfold plE;rw[h,zY yHn,zY];rintro⟨x,hx,hc⟩;obtain⟨j,hj,rfl⟩:=yP hx;have:=h2 j hj;rw[yJ,yM hj,yS]at this;exact this hc
theorem zNh {a1 b1:Option Addr} {n1 c1 m1 d1:Nat} {l:List Int} {es:List ByteArray} {W:World} {q:Ar} {many:Int} (h1:Av W a1 n1 c1 b1 m1 d1 l es (some q)) (hal:q.2.all zWd=false):
 Calls Tryz.prog 85 #[.agg #[.slice a1 n1 c1,.slice b1 m1 d1],.int .i64 many] W (PlO q many W):=by
 have KA:=zC (fun w (hb:Below W.heap.size W w)=>yC4 (c:=c1) (d:=d1) (s:=l) w xVl h1.i.2.2.2 xMm);have HE:=zC (zKh (many:=many) hal);have hal2:=zC hal;clear h1 hal;have h:=yUc W a1 n1 c1 b1 m1 d1;go_in;have x1:=h.out.1.c0;have y1:=h.out.1.c1;go_wp2_with fail;refine(xV7 h (KA.out _ h.out.2)).mono ?_;clear h x1 y1;rintro e w ⟨aa,na,ca,z,rfl,hz,h⟩;have hz5:z=5:=by
  rcases hz with⟨g,_⟩|⟨_,g⟩
  · rw[hal2.out]at g;cases g
  · exact g
 subst hz5;clear hz;go_wp2_with fail;go_ret2;exact⟨none,0,0,by rw[HE.out];rfl,(fun h=>by rw[HE.out]at h;cases h),h.out.2⟩
theorem zOh {a1 b1:Option Addr} {n1 c1 m1 d1:Nat} {l:List Int} {es:List ByteArray} {W:World} {q:Ar} {many:Int} (h1:Av W a1 n1 c1 b1 m1 d1 l es (some q)) (hal:q.2.all zWd=true):
 Calls Tryz.prog 85 #[.agg #[.slice a1 n1 c1,.slice b1 m1 d1],.int .i64 many] W (PlO q many W):=by
 have KA:=zC (fun w (hb:Below W.heap.size W w)=>yC4 (c:=c1) (d:=d1) (s:=l) w xVl h1.i.2.2.2 xMm);have HL:=zC h1.mlen.1.symm;have hm4:=h1.mlen.2.2;have hal2:=zC hal;clear h1 hal;have h:=yUc W a1 n1 c1 b1 m1 d1;go_in;have x1:=h.out.1.c0;have y1:=h.out.1.c1;go_wp2_with fail;refine(xV7 h (KA.out _ h.out.2)).mono ?_;clear h x1 y1;rintro e w ⟨aa,na,ca,z,rfl,hz,h⟩;obtain⟨rfl,hna,hS⟩:z=0∧na=m1∧Sl w aa na q.2∧na≤ca∧ca≤maxLen:=by
  rcases hz with⟨_,g1,g2,g3,g4,g5⟩|⟨g,_⟩
  · exact⟨g1,g2.trans HL.out,g3,g4,g5⟩
  · rw[hal2.out]at g;cases g
 subst hna;have HS:=zC hS;clear hz hS KA;go_wp2_with fail;go_loop [8] (fun iv=>∃k:Nat,iv=.int .i64 (k:Int)∧k≤na∧Hid (∀j,j<k→¬(q.2.getD j 0<0∨many≤q.2.getD j 0))) (fun iv=>na-(intOf iv).toNat)
 case atStart=>exact⟨0,rfl,xJ _,zC fun j hj=>by omega⟩
 case round=>
  obtain⟨k,rfl,hk,HN⟩:=hrel;by_cases hlt:k<na
  · have e2:(k:Int)<(na:Int):=by omega
    obtain⟨bb,off,rfl,hc⟩:=HS.out.1.2 yEn;have hck:=hc k hlt;have hg:=fun h2=>zLh (many:=many) hal2.out (j:=k) xTm h2;obtain⟨x,hx⟩:∃x,x=q.2.getD k 0:=⟨_,rfl⟩
    rw[←hx]at hck hg;have HXX:=zC hx;clear hc hx;by_cases h0:x<0
    · have HE:=zC (hg (.inl h0))
      clear hg;go_wp2_with fail;go_ret2;exact⟨none,0,0,by rw[HE.out];rfl,(fun h=>by rw[HE.out]at h;cases h),h.out.2⟩
    · by_cases h2:many≤x
      · have HE:=zC (hg (.inr h2))
        clear hg;go_wp2_with fail;go_ret2;exact⟨none,0,0,by rw[HE.out];rfl,(fun h=>by rw[HE.out]at h;cases h),h.out.2⟩
      · clear hg
        go_wp2_with fail;go_round
        case rel=>exact⟨k+1,by go_num,by omega,zC fun j hj=>by
         by_cases e:j=k
         · rw[e,←HXX.out];exact fun h=>h.elim h0 h2
         · exact HN.out j yEn⟩
        case measure=>simp[intOf];omega
  · have e2:¬(k:Int)<(na:Int):=by omega
    obtain rfl:k=na:=by omega
    have HE:=zC (zMh (many:=many) hal2.out fun j hj=>HN.out j xKm);go_wp2_with fail;go_ret2;exact⟨aa,k,ca,by rw[HE.out];rfl,(fun _=>⟨HL.out.symm,HS.out⟩),h.out.2⟩
theorem zPh {a1 b1:Option Addr} {n1 c1 m1 d1:Nat} {l:List Int} {es:List ByteArray} {W:World} {q:Ar} (many:Int) (h1:Av W a1 n1 c1 b1 m1 d1 l es (some q)):Calls Tryz.prog 85 #[.agg #[.slice a1 n1 c1,.slice b1 m1 d1],.int .i64 many] W (PlO q many W):=by
 rcases xN0 (q.2.all zWd)with ha|ha
 · exact zOh h1 ha
 · exact zNh h1 ha
theorem zQh {P:World→Prop} {w:World} {f:FuncId} {args:Array Value} {q:Ar} {many:Int} (h:Lv P w) (hc:Calls Tryz.prog f args w (PlO q many w))
 (hs:Stb P:=by repeat' (first|exact Stb.bel _|exact Stb.bx|exact Stb.vl|exact Stb.sl|exact Stb.st|refine Stb.and ?_ ?_|exact Stb.triv)):
 Calls Tryz.prog f args w fun e w'=>∃a n c,e=.returned (.tuple #[.slice a n c,.int .i64 (plE q many)])∧(plE q many=0→n=q.2.length∧Sl w' a n q.2∧n≤c∧c≤maxLen)∧Lv P w':=
 hc.mono fun _ _ ⟨a,n,c,h1,h2,h3⟩=>⟨a,n,c,h1,h2,⟨hs _ _ h.out h3⟩⟩
end
section
open Go.RowKit
theorem zRh {a1 b1:Option Addr} {n1 c1 m1 d1:Nat} {l:List Int} {es:List ByteArray} {W:World} (h1:Av W a1 n1 c1 b1 m1 d1 l es none):
 Calls Tryz.prog 105 #[.agg #[.slice a1 n1 c1,.slice b1 m1 d1]] W (zE7 1 W):=by
 have KV:=zC (fun w (hb:Below W.heap.size W w)=>yTc (h1.below hb));clear h1;have h:=yUc W a1 n1 c1 b1 m1 d1;go_in;have x1:=h.out.1.c0;have y1:=h.out.1.c1;go_wp2_with fail
 with_reducible refine(yMf h (KV.out _ h.out.2)).mono ?_
 clear h x1 y1;rintro e w ⟨rfl,h⟩;go_wp2_with fail;go_ret;exact⟨rfl,h.out.2⟩
theorem zSh {a1 b1:Option Addr} {n1 c1 m1 d1:Nat} {l:List Int} {es:List ByteArray} {W:World} {q:Ar} (h1:Av W a1 n1 c1 b1 m1 d1 l es (some q)) (hc:n1≠1):
 Calls Tryz.prog 105 #[.agg #[.slice a1 n1 c1,.slice b1 m1 d1]] W (zE7 3 W):=by
 have KV:=zC (fun w (hb:Below W.heap.size W w)=>yTc (h1.below hb));have hn:(n1:Int)≠1:=by omega
 clear h1;have h:=yUc W a1 n1 c1 b1 m1 d1;go_in;have x1:=h.out.1.c0;have y1:=h.out.1.c1;go_wp2_with fail
 with_reducible refine(yMf h (KV.out _ h.out.2)).mono ?_
 clear h x1 y1;rintro e w ⟨rfl,h⟩;have x1:=h.out.1.c0;have y1:=h.out.1.c1;go_wp2_with fail;go_ret;exact⟨rfl,h.out.2⟩
theorem zTh {a1 b1:Option Addr} {n1 c1 m1 d1:Nat} {l:List Int} {es:List ByteArray} {W:World} {q:Ar} (h1:Av W a1 n1 c1 b1 m1 d1 l es (some q)) (hc:n1=1):
 Calls Tryz.prog 105 #[.agg #[.slice a1 n1 c1,.slice b1 m1 d1]] W (zE7 0 W):=by
 have KV:=zC (fun w (hb:Below W.heap.size W w)=>yTc (h1.below hb));clear h1;subst hc;have h:=yUc W a1 1 c1 b1 m1 d1;go_in;have x1:=h.out.1.c0;have y1:=h.out.1.c1;go_wp2_with fail
 with_reducible refine(yMf h (KV.out _ h.out.2)).mono ?_
 clear h x1 y1;rintro e w ⟨rfl,h⟩;have x1:=h.out.1.c0;have y1:=h.out.1.c1;go_wp2_with fail;go_ret;exact⟨rfl,h.out.2⟩
theorem zUh {a1 b1:Option Addr} {n1 c1 m1 d1:Nat} {l:List Int} {es:List ByteArray} {W:World} {o:Option Ar} (h1:Av W a1 n1 c1 b1 m1 d1 l es o):Calls Tryz.prog 105 #[.agg #[.slice a1 n1 c1,.slice b1 m1 d1]] W (zE7 (vcE o) W):=by
 cases o with
 |none=>exact zRh h1
 |some q=>
  have hl:q.1.length=n1:=by rw[h1.fst];exact h1.v.s.1
  by_cases h:n1=1
  · have e:vcE (some q)=0:=by unfold vcE;dsimp only;rw[zY yEn]
    rw[e];exact zTh h1 h
  · have e:vcE (some q)=3:=by unfold vcE;dsimp only;rw[yA yEn]
    rw[e];exact zSh h1 h
theorem zVh {a1 b1:Option Addr} {n1 c1 m1 d1:Nat} {l:List Int} {es:List ByteArray} {W:World} {q:Ar} {many:Int} (h1:Av W a1 n1 c1 b1 m1 d1 l es (some q)) (hW:WT W) (hal:q.2.all zWd=false):
 Calls Tryz.prog 124 #[.agg #[.slice a1 n1 c1,.slice b1 m1 d1],.int .i64 many] W (PlO q many W):=by
 have KA:=zC (fun w (hb:Below W.heap.size W w)=>xQ7 (c:=c1) (d:=d1) (s:=l) w xVl h1.i.2.2.2 xMm (hW.below hb));have HE:=zC (zKh (many:=many) hal);have hal2:=zC hal;clear h1 hW hal;have h:=yUc W a1 n1 c1 b1 m1 d1;go_in;have x1:=h.out.1.c0;have y1:=h.out.1.c1;go_wp2_with fail;refine(xV7 h (KA.out _ h.out.2)).mono ?_;clear h x1 y1;rintro e w ⟨aa,na,ca,z,rfl,hz,h⟩;have hz5:z=5:=by
  rcases hz with⟨g,_⟩|⟨_,g⟩
  · rw[hal2.out]at g;cases g
  · exact g
 subst hz5;clear hz;go_wp2_with fail;go_ret2;exact⟨none,0,0,by rw[HE.out];rfl,(fun h=>by rw[HE.out]at h;cases h),h.out.2⟩
theorem zWh {a1 b1:Option Addr} {n1 c1 m1 d1:Nat} {l:List Int} {es:List ByteArray} {W:World} {q:Ar} {many:Int} (h1:Av W a1 n1 c1 b1 m1 d1 l es (some q)) (hW:WT W) (hal:q.2.all zWd=true):
 Calls Tryz.prog 124 #[.agg #[.slice a1 n1 c1,.slice b1 m1 d1],.int .i64 many] W (PlO q many W):=by
 have KA:=zC (fun w (hb:Below W.heap.size W w)=>xQ7 (c:=c1) (d:=d1) (s:=l) w xVl h1.i.2.2.2 xMm (hW.below hb));have HL:=zC h1.mlen.1.symm;have hm4:=h1.mlen.2.2;have hal2:=zC hal;clear h1 hW hal;have h:=yUc W a1 n1 c1 b1 m1 d1;go_in;have x1:=h.out.1.c0;have y1:=h.out.1.c1;go_wp2_with fail;refine(xV7 h (KA.out _ h.out.2)).mono ?_;clear h x1 y1;rintro e w ⟨aa,na,ca,z,rfl,hz,h⟩;obtain⟨rfl,hna,hS⟩:z=0∧na=m1∧Sl w aa na q.2∧na≤ca∧ca≤maxLen:=by
  rcases hz with⟨_,g1,g2,g3,g4,g5⟩|⟨g,_⟩
  · exact⟨g1,g2.trans HL.out,g3,g4,g5⟩
  · rw[hal2.out]at g;cases g
 subst hna;have HS:=zC hS;clear hz hS KA;go_wp2_with fail;go_loop [20] (fun iv=>∃k:Nat,iv=.int .i64 (k:Int)∧k≤na∧Hid (∀j,j<k→¬(q.2.getD j 0<0∨many≤q.2.getD j 0))) (fun iv=>na-(intOf iv).toNat)
 case atStart=>exact⟨0,rfl,xJ _,zC fun j hj=>by omega⟩
 case round=>
  obtain⟨k,rfl,hk,HN⟩:=hrel;by_cases hlt:k<na
  · have e2:(k:Int)<(na:Int):=by omega
    obtain⟨bb,off,rfl,hc⟩:=HS.out.1.2 yEn;have hck:=hc k hlt;have hg:=fun h2=>zLh (many:=many) hal2.out (j:=k) xTm h2;obtain⟨x,hx⟩:∃x,x=q.2.getD k 0:=⟨_,rfl⟩
    rw[←hx]at hck hg;have HXX:=zC hx;clear hc hx;by_cases h0:x<0
    · have HE:=zC (hg (.inl h0))
      clear hg;go_wp2_with fail;go_ret2;exact⟨none,0,0,by rw[HE.out];rfl,(fun h=>by rw[HE.out]at h;cases h),h.out.2⟩
    · by_cases h2:many≤x
      · have HE:=zC (hg (.inr h2))
        clear hg;go_wp2_with fail;go_ret2;exact⟨none,0,0,by rw[HE.out];rfl,(fun h=>by rw[HE.out]at h;cases h),h.out.2⟩
      · clear hg
        go_wp2_with fail;go_round
        case rel=>exact⟨k+1,by go_num,by omega,zC fun j hj=>by
         by_cases e:j=k
         · rw[e,←HXX.out];exact fun h=>h.elim h0 h2
         · exact HN.out j yEn⟩
        case measure=>simp[intOf];omega
  · have e2:¬(k:Int)<(na:Int):=by omega
    obtain rfl:k=na:=by omega
    have HE:=zC (zMh (many:=many) hal2.out fun j hj=>HN.out j xKm);go_wp2_with fail;go_ret2;exact⟨aa,k,ca,by rw[HE.out];rfl,(fun _=>⟨HL.out.symm,HS.out⟩),h.out.2⟩
theorem zXh {a1 b1:Option Addr} {n1 c1 m1 d1:Nat} {l:List Int} {es:List ByteArray} {W:World} {q:Ar} (many:Int) (h1:Av W a1 n1 c1 b1 m1 d1 l es (some q)) (hW:WT W):Calls Tryz.prog 124 #[.agg #[.slice a1 n1 c1,.slice b1 m1 d1],.int .i64 many] W (PlO q many W):=by
 rcases xN0 (q.2.all zWd)with ha|ha
 · exact zWh h1 hW ha
 · exact zVh h1 hW ha
theorem zYh (a:Option Addr) (n c:Nat) (es:List ByteArray) (W:World) (h:St W a n es) (hz:∀j,j<n→(es.getD j ByteArray.empty).size≤maxLen) (hn:n≤100000):
 Calls Tryz.prog 108 #[.slice a n c] W (zIh es W):=by
 have hmm:=@run_makeMap Tryz.prog;have HS:=zC h;have HL:=zC h.1;have HZ:=zC hz;have hb0:=zC ((zI W.heap.size W).alloc (zR _) (.map #[] 0));have ho0:=zC (World.ownsMap_made (H:=Unit) W Tryz.prog 9 (plainElem Tryz.prog 3));clear h hz;go_in;go_wp2_with fail;go_loopw [11] (fun iv wr=>∃(i:Nat) (D:DataW Unit),iv=.int .i64 (i:Int)∧i≤n∧wr.ownsMap Tryz.prog 9 (plainElem Tryz.prog 3) W.heap.size i D∧Hid (FstD D (es.take i))∧Below W.heap.size W wr) (fun iv _=>n-(intOf iv).toNat)
 case atStart=>exact⟨0,_,rfl,xJ _,ho0.out,zC FstD.nil,hb0.out⟩
 case round=>
  obtain⟨i,D,rfl,hi,hown,HD,hb⟩:=hrel;by_cases hlt:i<n
  · have e2:(i:Int)<(n:Int):=by omega
    obtain⟨bb,off,rfl,hc⟩:=HS.out.2 yEn;have hck:=(hb.cell (p:=⟨bb,off+i,none⟩) (yU W _ (hc i hlt))).trans (hc i hlt);obtain⟨s,hs⟩:∃s,s=es.getD i ByteArray.empty:=⟨_,rfl⟩
    have hsz:=HZ.out i hlt;rw[←hs]at hck hsz;have hkey:keyOf Tryz.prog 9 (.string s)=some (.string s.data.toList):=yK2 Tryz.underlying9 hsz;have HT:Hid (es.take (i+1)=es.take i++[s]):=zC (by
     rw[yE0 xTm,hs,yJ,yM xTm];rfl)
    have HOw:=zC hown;have HBl:=zC hb;have htl:(es.take i).length=i:=by rw[xP,HL.out];omega
    have HTL:=zC htl;clear hc hs hsz htl hb hown;by_cases hin:s∈es.take i
    · have hh:Maps.has D (.string s.data.toList)=true:=HD.out.yes hin
      have HIN:=zC hin;clear hin;go_wp2_with (first|(at_lookup;refine wpList_lookup_own_ok_int _ rfl _ _ 102 rfl 9 3 .i64 zGh Tryz.underlying102 Tryz.underlying3 (zHh _) W.heap.size i D rfl HOw.out _ _ rfl hkey ?_;intro cc hat hwc)|fail)
      go_roundw
      case rel=>exact⟨i+1,D,by go_num,by omega,HOw.out.mono (Nat.le_succ i),zC (by rw[HT.out];exact HD.out.old HIN.out),HBl.out⟩
      case measure=>simp[intOf];omega
    · have hh:Maps.has D (.string s.data.toList)=false:=HD.out.no hin
      have HIN:=zC hin;clear hin;have HP:=zC (plainElem_int (H:=Unit) (P:=Tryz.prog) (e:=3) (q:=.i64) Tryz.underlying3 (a:=(i:Int)) (WalkArith.wf_i64 yEn));go_wp2_with (first|(at_lookup;refine wpList_lookup_own_ok_int _ rfl _ _ 102 rfl 9 3 .i64 zGh Tryz.underlying102 Tryz.underlying3 (zHh _) W.heap.size i D rfl HOw.out _ _ rfl hkey ?_;intro cc hat hwc)|(at_mapUpdate;refine wpList_mapUpdate_own _ rfl _ _ _ 102 rfl 9 3 zGh Tryz.underlying102 _ W.heap.size i D rfl HOw.out xXm _ _ _ rfl rfl hkey _ [] HP.out ?_;intro w1 hown1 hgrow1)|fail)
      have hb1:=HBl.out.grown hgrow1 HBl.out.size (fun j hj=>by cases hj;exact zR _);have HD1:=HD.out.new (HOw.out.isMap) HIN.out;rw[HTL.out,←HT.out]at HD1;have HD2:=zC HD1;clear hgrow1 HD1;go_wp2_with fail;go_roundw
      case rel=>exact⟨i+1,_,by go_num,by omega,hown1,HD2,hb1⟩
      case measure=>simp[intOf];omega
  · have e2:¬(i:Int)<(n:Int):=by omega
    obtain rfl:i=n:=by omega
    have HF:Hid (Fst wr W.heap.size i es):=zC ⟨D,hown,by have:=HD.out;rwa [yW xPm]at this⟩;have HBl:=zC hb;clear hown hb;go_wp2_with fail;go_ret;exact⟨_,rfl,by rw[HL.out];exact HF.out,HBl.out⟩
end
section
open Go.RowKit
theorem Hpn.zero (f:Nat→Int) (a:Nat→Nat):Hpn f a 0:=⟨fun m h=>by omega,fun i j h=>by omega,fun v=>⟨fun⟨k,hk,_⟩=>by omega,fun h=>by omega⟩⟩
theorem Hpn.out {f:Nat→Int} {a:Nat→Nat} {n:Nat} (h:Hpn f a n):Out f n [] a n:=
 ⟨h.hp,h.inj,List.Pairwise.nil,fun v hv=>(by cases hv),fun v=>by rw[h.con v];simp⟩
theorem Kep.more {K K2:Nat→Prop} {u v w:World} (h:Kep K u v) (h2:Kep K2 v w) (hs:∀k,K k→K2 k):Kep K u w:=
 ⟨h2.os.trans h.os,h2.tape.trans h.tape,h2.output.trans h.output,xN h.size h2.size,fun k hk=>(h2.block k (hs k hk)).trans (h.block k hk)⟩
theorem zZh {w w':World} {B n:Nat} {e:TypeId} {v:Value} {xs:List Value} (h:w.ownsRow B e 1 v n xs) (hb:∀k,v.ownBlock=some k→w'.heap[k]?=w.heap[k]?):w'.ownsRow B e 1 v n xs:=by
 refine⟨h.1,?_⟩;rcases h.2 with h0|⟨g,cap,cur,e1,e2,hg,h2⟩
 · exact .inl h0
 · exact .inr ⟨g,cap,cur,e1,e2,(hb g (by rw[e1];rfl)).trans hg,h2⟩
section
variable {G B1:Nat} {b:Option Addr} {m d:Nat} {sg:Int} {K:Nat→Prop} {W0:World} {pf:Option Addr→Prop} {M:Nat} {xs:List Int} {a:Nat→Nat} {n:Nat} {w w':World} {pa:Option Addr} {pc:Nat}
theorem hpu (C:OC G B1 b m d sg K W0 pf M xs) (hall:∀q,pf q):HpPu (fun k=>sg*xs.getD k 0) 125 (.pointer (some ⟨G,0,none⟩)) (OS G B1 b m d sg K W0 pf M) M where
 ml:=fun w=>by kernel_rfl
 ms:=fun w=>by kernel_rfl
 mlen:=fun w=>by kernel_rfl
 mpush:=fun w=>by kernel_rfl
 less:=fun w a n i j h hi hj=>zBh C h hi hj
 swap:=fun w a n i j h hi hj=>xZg C h hi hj
 len:=fun w a n h=>xXg h
 push:=fun w a n h hn=>zAh C hall h hn
theorem hpo (C:OC G B1 b m d sg K W0 pf M xs):HpPo (fun k=>sg*xs.getD k 0) 125 (.pointer (some ⟨G,0,none⟩)) (OS G B1 b m d sg K W0 pf M) where
 ml:=fun w=>by kernel_rfl
 ms:=fun w=>by kernel_rfl
 mlen:=fun w=>by kernel_rfl
 mpop:=fun w=>by kernel_rfl
 less:=fun w a n i j h hi hj=>zBh C h hi hj
 swap:=fun w a n i j h hi hj=>xZg C h hi hj
 len:=fun w a n h=>xXg h
 pop:=fun w a n h=>xYg C h
theorem Od.onB (h:Od G B1 b m d sg K W0 pf M a n w pa pc) {B:Nat} (hG:G<B) (hR:∀k,(Value.slice pa n pc).ownBlock=some k→k<B) (hK:∀k,K k→k<B) (hb:Below B w w'):Od G B1 b m d sg K W0 pf M a n w' pa pc:=
 ⟨(hb.block G hG).trans h.box,zZh h.row fun k hk=>hb.block k (hR k hk),h.addr,
   ⟨hb.os.trans h.kep.os,hb.tape.trans h.kep.tape,hb.output.trans h.kep.output,xN h.kep.size hb.size,fun k hk=>(hb.block k (hK k hk)).trans (h.kep.block k hk)⟩,h.lt,h.nle⟩
theorem yAh {k:Nat} (h:(Value.slice pa n pc).ownBlock=some k):∃p,pa=some p∧p.block=k:=by
 cases pa with
 |none=>cases h
 |some p=>exact⟨p,rfl,by simpa[Value.ownBlock]using h⟩
end
theorem yBh {a1 b1:Option Addr} {n1 c1 m1 d1:Nat} {l:List Int} {es:List ByteArray} {W:World} {o:Option Ar} {sg:Int} (h1:Av W a1 n1 c1 b1 m1 d1 l es o) (hv:vcE o≠0):
 Calls Tryz.prog 104 #[.agg #[.slice a1 n1 c1,.slice b1 m1 d1],.int .i64 sg] W (xL3 (none,vcE o) W):=by
 have KC:=zC (fun w (hb:Below W.heap.size W w)=>zUh (h1.below hb));generalize vcE o=k at*;have hk:(k != 0)=true:=by simpa using hv
 clear h1 hv;have h:=xO3 W a1 n1 c1 b1 m1 d1;go_in;have x1:=h.out.2.1.c0;have y1:=h.out.2.1.c1;go_wp2_with fail
 with_reducible refine(yMf h (KC.out _ h.out.2.2)).mono ?_
 clear h x1 y1;rintro e w ⟨rfl,h⟩;have y0:=h.out.1.c0;have y3:=h.out.1.c1;have f0:=h.out.1.f 0;have f1:=h.out.1.f 1;go_wp2_with fail;have hR:=h.out.1.set none 0 0 none 0 0;have r0:=hR.c0;have r1:=hR.c1;exact zE (v:=.tuple #[.agg #[.slice none 0 0,.slice none 0 0],.int .i64 k]) zHm rfl (xN3 h.out.1 h.out.2.2 yEn)
theorem yCh {a1 b1:Option Addr} {n1 c1 m1 d1:Nat} {l:List Int} {es:List ByteArray} {W:World} {q:Ar} {sg:Int} (h1:Av W a1 n1 c1 b1 m1 d1 l es (some q)) (hW:WT W) (hv:vcE (some q)=0) (hsg:sg=1∨sg= -1):
 Calls Tryz.prog 104 #[.agg #[.slice a1 n1 c1,.slice b1 m1 d1],.int .i64 sg] W (xL3 (some ([(q.2.length:Int)],yE4 (orL (fun i=>sg*q.2.getD i 0) q.2.length)),0) W):=by
 have KC:=zC (fun w (hb:Below W.heap.size W w)=>zUh (h1.below hb));rw[hv]at KC;have hm4:=h1.mlen.2.2;have hml:=h1.mlen.1;have KW:=zC (fun w (hb:Below W.heap.size W w)=>hW.below hb);have HST:=zC (show St W b1 m1 (q.2.map S)from by have:=h1.v.t;rwa [h1.i.2.1]at this);have HX:=zC h1.i.2.2.2;obtain⟨xs,hxs⟩:∃xs,xs=q.2:=⟨_,rfl⟩
 rw[←hxs]at HST HX hml;rw[←hxs,←hml];obtain⟨f,hf⟩:∃f,f=fun k:Nat=>sg*xs.getD k 0:=⟨_,rfl⟩
 rw[←hf];have HPU:=zC (fun G wo (C:OC G (G+1) b1 m1 d1 sg (fun k=>k<G) wo (fun _=>True) m1 xs)=>hpu C fun _=>trivial);have HPO:=zC (fun G K w0 pf (C:OC G (G+1) b1 m1 d1 sg K w0 pf m1 xs)=>hpo C);rw[←hf]at HPU HPO;have KI:=zC (fun w a c L (hL:orL f m1=L) (hs:Sl w a m1 (yE4 L)) (ht:WT w)=>(show Calls Tryz.prog 17 #[.slice a m1 c] w (yIb [(m1:Int)] ((yE4 (orL f m1)).map S) w)from by
  rw[hL];refine yXc a m1 c (yE4 L) w hs (fun j hj=> ?_) yEn ht;have hl:j<L.length:=by rw[←hL,zQ8];exact hj
  have h5:=zP8 (f:=f) (n:=m1) L[j] (by rw[hL];exact xH hl);rw[yJ,yE4,xS0,yM hl];show I64 (L[j]:Int);unfold I64;omega))
 have HR:=zC (zI8 f hm4);have HSG:=zC hsg;clear h1 hv hf hml hxs hsg hW;have h:=xO3 W a1 n1 c1 b1 m1 d1;go_in;have x1:=h.out.2.1.c0;have y1:=h.out.2.1.c1;go_wp2_with fail
 with_reducible refine(yMf h (KC.out _ h.out.2.2)).mono ?_
 clear h x1 y1;rintro e w ⟨rfl,h⟩;obtain⟨G,hG⟩:∃G,G=w.heap.size:=⟨_,rfl⟩
 have y1:=h.out.2.1.c1;have l1:=h.out.2.1.lt;obtain⟨wo,hwo⟩:∃z,z=w.alloc (.cells #[.slice b1 m1 d1,.slice none 0 0,.int .i64 sg] 127):=⟨_,rfl⟩
 have hbo:Below G w wo:=by rw[hwo,hG];exact(zI _ _).alloc (zR _) _
 have hso:wo.heap.size=G+1:=by rw[hwo,hG];simp
 have hbx:wo.heap[G]?=some (.cells #[.slice b1 m1 d1,.slice none 0 0,.int .i64 sg] 127 (0,0)):=by rw[hwo,hG];exact yE w _
 have y1o:=(hbo.cell (p:=⟨W.heap.size,1,none⟩) (by rw[hG];exact l1)).trans y1;have HEE:Hid (∀z,Kep (fun k=>k<G) wo z→Below W.heap.size W z):=zC fun z hz=>h.out.2.2.trans ((hbo.trans (hz.below fun k hk=>hk)).mono (by rw[hG];exact h.out.2.2.size));have HLV:Hid (∀z,Kep (fun k=>k<G) wo z→Lv (fun w=>Bx w (W.heap.size+1) none 0 0 none 0 0∧Bx w W.heap.size a1 n1 c1 b1 m1 d1∧Below W.heap.size W w) z):=zC fun z hz=>xVf h ((hbo.trans (hz.below fun k hk=>hk)).mono (by rw[hG];exact zR _));have C1:Hid (OC G (G+1) b1 m1 d1 sg (fun k=>k<G) wo (fun _=>True) m1 xs):=zC ⟨fun k hk=>by omega,by omega,rfl,fun R _ hR=>by omega,fun z hz=>HST.out.below (HEE.out z hz),HX.out,rfl,by omega,HSG.out⟩;have HPU1:=zC (HPU.out G wo C1.out);have HO0:Hid (OS G (G+1) b1 m1 d1 sg (fun k=>k<G) wo (fun _=>True) m1 (fun _=>0) 0 wo):=zC ⟨none,0,hbx,zT _ _ _ _,trivial,Kep.refl _ _,fun k hk=>by omega,xJ _⟩;have hbx2:=zC hbx;have HGE:=zC hG;clear hbx h hbo HPU C1;go_upto_region 5 with fail
 rw[←hwo,←hG];clear hwo hG y1 l1;go_wp2_with fail;go_loopw [24] (fun iv wr=>∃(i:Nat) (a:Nat→Nat),iv=.int .i64 (i:Int)∧i≤m1∧OS G (G+1) b1 m1 d1 sg (fun k=>k<G) wo (fun _=>True) m1 a i wr∧Hid (Hpn f a i)) (fun iv _=>m1-(intOf iv).toNat)
 case atStart=>exact⟨0,fun _=>0,rfl,xJ _,HO0.out,zC (Hpn.zero f _)⟩
 case round=>
  obtain⟨i,a,rfl,hi,hs,HP⟩:=hrel;by_cases hlt:i<m1
  · have e3:(i:Int)<(m1:Int):=by omega
    have K9:=zC (yN3 HPU1.out hs hlt yEn HP.out);clear hs HP;go_wp2_with fail;refine K9.out.mono ?_;rintro e w3 ⟨rfl,c,hs3,hp3⟩;have HP3:=zC hp3;clear hp3 K9;go_wp2_with fail;go_roundw
    case rel=>exact⟨i+1,c,by go_num,by omega,hs3,HP3⟩
    case measure=>simp[intOf];omega
  · have e3:¬(i:Int)<(m1:Int):=by omega
    obtain rfl:i=m1:=by omega
    obtain⟨pa,pc,hd⟩:=hs;obtain⟨B,hB⟩:∃B,B=wr.heap.size:=⟨_,rfl⟩
    have hGB:G<B:=by rw[hB];exact hd.gl
    have HPA:Hid (∀p,pa=some p→G+1≤p.block∧p.block<B):=zC fun p hp=>by
     have:=hd.row.lt p.block (by rw[hp];rfl);rw[hB];exact this
    have HD0:=zC hd;have HOU:=zC HP.out.out;clear hd HPU1 HO0 HP;go_wp2_with fail;go_loopw [9] (fun pv wz=>∃(n s:Nat) (a:Nat→Nat) (out:List Nat) (av:Option Addr) (cv pc:Nat),pv=.slice av s cv∧s+n=i∧Hid (s=out.length)∧Hid (Od G (G+1) b1 i d1 sg (fun k=>k<G) wo (fun r=>r=pa) i a n wz pa pc)∧wz.ownsRow B 3 1 (.slice av s cv) s (yS9 (yE4 out))∧B≤wz.heap.size∧Hid (Out f i out a n)) (fun pv _=>i-xR7 pv)
    case atStart=>exact⟨i,0,a,[],none,0,pc,rfl,by omega,zC rfl,zC ⟨HD0.out.box,HD0.out.row,rfl,HD0.out.kep,HD0.out.lt,HD0.out.nle⟩,zT _ _ _ _,by omega,HOU⟩
    case round=>
     obtain⟨n,s,a,out,av,cv,pc2,rfl,hsn,HSO,HD,ho,hBz,HO⟩:=hrel;clear HD0 HOU;have KL:=zC (xWg HD.out);cases n with
     |zero=>
      go_wp2_with fail;refine KL.out.mono ?_;rintro e w9 ⟨rfl,rfl⟩;obtain rfl:s=i:=by omega
      have HOR:=zC (yD4 HO.out.ends);have hsl:=zC (zYf ho);have h:=HLV.out _ HD.out.kep;have KI2:=zC (KI.out _ av cv out HOR.out hsl.out (KW.out _ h.out.2.2));clear ho KI;have y0:=h.out.1.c0;have y3:=h.out.1.c1;have f0:=h.out.1.f 0;have f1:=h.out.1.f 1;go_wp2_with fail
      with_reducible refine(yWc h KI2.out).mono ?_
      clear h y0 y3 f0 f1;rintro e w ⟨ar,nr,cr,br,mr,dr,rfl,h,hv,hc⟩;have y0:=h.out.1.c0;have y3:=h.out.1.c1;have f0:=h.out.1.f 0;have f1:=h.out.1.f 1;go_wp2_with fail;have hR:=h.out.1.set ar nr cr br mr dr;have r0:=hR.c0;have r1:=hR.c1;exact zE (v:=.tuple #[.agg #[.slice ar nr cr,.slice br mr dr],.int .i64 0]) zHm rfl
       (xM3 (r:=(some ([(s:Int)],yE4 (orL f s)),0)) h.out.1 h.out.2.2 yEn hv hc HR.out)
     |succ n=>
      have hnp:(0:Int)<((n+1:Nat):Int):=by omega
      have C2:OC G (G+1) b1 i d1 sg (fun k=>(k<G∨B≤k)∧k<wr.heap.size) wr (fun r=>r=pa) i xs:=⟨fun k hk=>hk.2,by omega,rfl,fun R hR hR2=>by
       have:=HPA.out _ hR.symm;simp only at this;omega,fun z hz=>HST.out.below (HEE.out z (HD.out.kep.more hz fun k hk=>⟨.inl hk,by omega⟩)),HX.out,rfl,by omega,HSG.out⟩
      have K9:=zC (yO3 (HPO.out G _ _ _ C2) (a:=a) (n:=n) (W:=wr) ⟨pa,pc2,HD.out.box,HD.out.row,rfl,Kep.refl _ _,HD.out.lt,HD.out.nle⟩ yEn HO.out.hp);have HOW:=zC ho;clear ho C2;go_wp2_with fail;refine KL.out.mono ?_;rintro e w9 ⟨rfl,rfl⟩;go_wp2_with fail;refine K9.out.mono ?_;rintro e w3 ⟨rfl,c,⟨pa',pc3,hd3⟩,hhp,hinj,hcon⟩;obtain rfl:pa'=pa:=hd3.addr;have HO2:=zC (HO.out.pop hhp (hinj HO.out.inj) hcon);have ho3:w3.ownsRow B 3 1 (.slice av s cv) s (yS9 (yE4 out)):=zZh HOW.out fun k hk=>by
       have:=HOW.out.lt k hk;exact hd3.kep.block k ⟨.inr this.1,this.2⟩
      have hB3:B≤w3.heap.size:=xN hBz hd3.kep.size;have HD3:Hid (Od G (G+1) b1 i d1 sg (fun k=>k<G) wo (fun r=>r=pa') i c n w3 pa' pc3):=zC ⟨hd3.box,hd3.row,rfl,HD.out.kep.more hd3.kep fun k hk=>⟨.inl hk,by omega⟩,hd3.lt,hd3.nle⟩;have HO3:=zC (ho3.alloc (.cells #[.int .i64 (a 0:Int)] 3));have hr5:=zC (yGf (yKb w3 (a 0:Int)));have hta:∀w,(Instr.typeAssert (.iface 3 (.int .i64 (a 0:Int))) 20 3 false).run Tryz.prog w=.ok (.int .i64 (a 0:Int)) w:=fun w=>by kernel_rfl
      clear hd3 hhp hinj hcon HO HD ho3 HOW K9 KL;go_wp2_with (at_builtin;refine yDf rfl (.tmp 36) (.tmp 41) 22 rfl B 3 (.int .i64 0) 8 Tryz.underlying22 xB4 rfl yCn _ s _ rfl HO3.out _ 1 1 (yS9 [(a 0:Int)]) rfl hr5.out (zUf _) yEn zZn ?_;intro av' cv' w4 hown4 hg4)
      have hb4:Below B w3 w4:=((zI B w3).alloc hB3 _).trans (yHf hg4 (fun g' hg'=>(HO3.out.lt g' hg').1) zZn);rw[←zNa]at hown4;have HD4:=zC (HD3.out.onB hGB (fun k hk=>by obtain⟨p,hp,rfl⟩:=yAh hk;exact(HPA.out p hp).2) (fun k hk=>by omega) hb4);have hB4:B≤w4.heap.size:=xN hB3 hb4.size;clear hg4 hb4 HO3 hr5;go_wp2_with fail;go_roundw
      case rel=>exact⟨n,s+1,c,out++[a 0],av',cv',pc3,rfl,by omega,zC (by rw[zC0,←HSO.out];rfl),HD4,hown4,hB4,HO2⟩
      case measure=>simp[xR7];omega
theorem yDh {a1 b1:Option Addr} {n1 c1 m1 d1:Nat} {l:List Int} {es:List ByteArray} {W:World} {o:Option Ar} {sg:Int} (h1:Av W a1 n1 c1 b1 m1 d1 l es o) (hW:WT W) (hsg:sg=1∨sg= -1):Calls Tryz.prog 104 #[.agg #[.slice a1 n1 c1,.slice b1 m1 d1],.int .i64 sg] W (xL3 (upK sg o) W):=by
 by_cases hv:vcE o=0
 · obtain⟨q,rfl,hl⟩:=zUa hv
   rw[zO8 sg hl];exact yCh h1 hW hv hsg
 · rw[zSa hv];exact yBh h1 hv
theorem yEh {a1 b1:Option Addr} {n1 c1 m1 d1:Nat} {l:List Int} {es:List ByteArray} {W:World} {o:Option Ar} (h1:Av W a1 n1 c1 b1 m1 d1 l es o) (hW:WT W):Calls Tryz.prog 52 #[.agg #[.slice a1 n1 c1,.slice b1 m1 d1]] W (xL3 (upK 1 o) W):=by
 have KO:=zC (fun w (hb:Below W.heap.size W w)=>yDh (sg:=1) (h1.below hb) (hW.below hb) yHn);clear h1 hW;generalize upK 1 o=R at*;obtain⟨ro,rk⟩:=R;have h:=xO3 W a1 n1 c1 b1 m1 d1;go_in;have x1:=h.out.2.1.c0;have y1:=h.out.2.1.c1;have y0:=h.out.1.c0;have y3:=h.out.1.c1;have f0:=h.out.1.f 0;have f1:=h.out.1.f 1;go_wp2_with fail;refine(KO.out _ h.out.2.2).mono ?_;clear y0 y3 f0 f1 x1 y1;rintro e w ⟨ar,nr,cr,br,mr,dr,rfl,hA,hb⟩;replace h:=xVf h hb;have y0:=h.out.1.c0;have y3:=h.out.1.c1;have f0:=h.out.1.f 0;have f1:=h.out.1.f 1;go_wp2_with fail;have hR:=h.out.1.set ar nr cr br mr dr;have r0:=hR.c0;have r1:=hR.c1;exact zE (v:=.tuple #[.agg #[.slice ar nr cr,.slice br mr dr],.int .i64 rk]) (by simp[results,Tryz.results52,go_sem,r0,r1]) rfl ⟨_,_,_,_,_,_,rfl,⟨⟨h.out.1.sl hA.v.s _ _,h.out.1.st hA.v.t _ _,hA.v.mm⟩,hA.c,hA.z,hA.i⟩,yJ4 h.out.2.2 yEn _ _⟩
theorem yFh {a1 b1:Option Addr} {n1 c1 m1 d1:Nat} {l:List Int} {es:List ByteArray} {W:World} {o:Option Ar} (h1:Av W a1 n1 c1 b1 m1 d1 l es o) (hW:WT W):Calls Tryz.prog 53 #[.agg #[.slice a1 n1 c1,.slice b1 m1 d1]] W (xL3 (upK (-1) o) W):=by
 have KO:=zC (fun w (hb:Below W.heap.size W w)=>yDh (sg:= -1) (h1.below hb) (hW.below hb) yHn);clear h1 hW;generalize upK (-1) o=R at*;obtain⟨ro,rk⟩:=R;have h:=xO3 W a1 n1 c1 b1 m1 d1;go_in;have x1:=h.out.2.1.c0;have y1:=h.out.2.1.c1;have y0:=h.out.1.c0;have y3:=h.out.1.c1;have f0:=h.out.1.f 0;have f1:=h.out.1.f 1;go_wp2_with fail;refine(KO.out _ h.out.2.2).mono ?_;clear y0 y3 f0 f1 x1 y1;rintro e w ⟨ar,nr,cr,br,mr,dr,rfl,hA,hb⟩;replace h:=xVf h hb;have y0:=h.out.1.c0;have y3:=h.out.1.c1;have f0:=h.out.1.f 0;have f1:=h.out.1.f 1;go_wp2_with fail;have hR:=h.out.1.set ar nr cr br mr dr;have r0:=hR.c0;have r1:=hR.c1;exact zE (v:=.tuple #[.agg #[.slice ar nr cr,.slice br mr dr],.int .i64 rk]) (by simp[results,Tryz.results53,go_sem,r0,r1]) rfl ⟨_,_,_,_,_,_,rfl,⟨⟨h.out.1.sl hA.v.s _ _,h.out.1.st hA.v.t _ _,hA.v.mm⟩,hA.c,hA.z,hA.i⟩,yJ4 h.out.2.2 yEn _ _⟩
end
end Go.Proofs.YtcfbjdplhgdpfaaGreatDoor

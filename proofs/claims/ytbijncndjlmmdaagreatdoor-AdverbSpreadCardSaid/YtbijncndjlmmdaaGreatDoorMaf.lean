import Derived.Test.YtbijncndjlmmdaaGreatDoorMad
import Derived.Test.YtbijncndjlmmdaaGreatDoorMae
import Derived.Lib.Walk
import Derived.Lib.ItoaWalk
import Derived.Lib.ItoaMem
import Derived.Lib.AppendIntMem
import Derived.Lib.Slices
import Derived.BigCall
import Derived.BigGuard
set_option maxHeartbeats 12800000
set_option maxRecDepth 100000
namespace Go.Proofs.YtbijncndjlmmdaaGreatDoor
set_option linter.unusedVariables false
set_option linter.unusedSimpArgs false
open Go.RowKit Go.Sort
def Tab (w:World):Prop:=Lib.TabBelow Tryz.prog w.heap.size w "internal/strconv.uint64pow10" .u64 Lib.pow10Tab
theorem Tab.is {w:World} (h:Tab w):Lib.TabIs Tryz.prog w "internal/strconv.uint64pow10" .u64 Lib.pow10Tab:=h w (Below.refl _ _)
theorem Tab.below {w w':World} (h:Tab w) (hb:Below w.heap.size w w'):Tab w':=fun w2 h2=>h w2 (hb.trans (h2.mono hb.size))
theorem formatUint_in (u:Nat) (hu:100≤u) (hu64:u<18446744073709551616) (w:World) (htab:Lib.TabIs Tryz.prog w "internal/strconv.uint64pow10" .u64 Lib.pow10Tab):
 Calls Tryz.prog 316 #[.int .u64 u,.int .i64 10] w fun e w'=>e=.returned (.string ⟨(Lib.decDigits u).toArray⟩)∧∃k os,w'=grow (w.drewN k) os:=by
 have hu1:1≤u:=by omega
 have hnd20:Lib.nDigits u≤20:=by have:=Lib.numDigits_eq u hu1 hu64;split at this<;>omega
 have hb3:Lib.nDigits u≤23:=by omega
 have hal:Tryz.prog.arrayLen 171=24:=by kernel_rfl
 have hsl:∀W,(Instr.sliceAt 171 (.pointer (some ⟨w.heap.size,0,none⟩)) none (some (.int .i64 (Lib.nDigits u:Int))) none).run Tryz.prog W=.ok (.slice (some ⟨w.heap.size,0,none⟩) (Lib.nDigits u) 24) W:=fun W=>by
  rw[run_sliceAt_array_h W 171 ⟨w.heap.size,0,none⟩ (by simp[Program.arrayLen,Program.elem,Tryz.underlying171]) .i64 (Lib.nDigits u:Int) (by omega) (by rw[hal];omega)]
  go_simp
 have hH0:=Lib.holds_zero0 w 171 (Lib.nDigits u) (by omega)
 have hfmt:=Tryz.internal_strconv_formatBase10 w.heap.size 0 24 u (Array.replicate (Lib.nDigits u) 0) (w.alloc (.cells Lib.zeros24 171)) hH0 (by rw[Array.size_replicate];exact Lib.lt_pow_nDigits u) hu64 (by rw[Array.size_replicate];omega)
 rw[Array.size_replicate]at hfmt
 have HH0:=Lib.hid hH0
 have HF:=Lib.hid hfmt
 have iu:(100:Int)≤(u:Int):=by omega
 have iu2:¬(u:Int)<100:=by omega
 clear hH0 hal hfmt
 go_enter Tryz.func316,Tryz.ntmps316
 go_wp2_with fail
 refine(Tryz.internal_strconv_numDigits u hu1 hu64 _ (Lib.tabIs_alloc htab _)).mono ?_
 rintro e w' ⟨rfl,rfl⟩
 go_wp2_with fail
 refine HF.out.mono ?_
 rintro e w' ⟨rfl,k,v',dk,rfl,hF⟩
 have hcv:(convert 175 9 (.slice (some ⟨w.heap.size,0,none⟩) (Lib.nDigits u) 24)).run Tryz.prog ((putRow (fun(b:UInt8)=>Value.int .u8 (b.toNat:Int)) (w.alloc (.cells Lib.zeros24 171)) w.heap.size 0 dk).drewN k)=.ok (.string ⟨(Lib.decDigits u).toArray⟩) ((putRow (fun(b:UInt8)=>Value.int .u8 (b.toNat:Int)) (w.alloc (.cells Lib.zeros24 171)) w.heap.size 0 dk).drewN k):=by
  have h:=run_convert_bytes_back (P:=Tryz.prog) ((putRow (fun(b:UInt8)=>Value.int .u8 (b.toNat:Int)) (w.alloc (.cells Lib.zeros24 171)) w.heap.size 0 dk).drewN k) 175 9 5 ⟨w.heap.size,0,none⟩ 24 (Lib.decDigits u) Tryz.underlying175 Tryz.underlying5 Tryz.underlying9 (fun j hj=>by
   rw[Lib.row_is_numeral hF j hj,Lib.add_plain,World.cell?_drewN]
   exact cell?_putRow (fun(b:UInt8)=>Value.int .u8 (b.toNat:Int)) _ w.heap.size 0 _ dk HH0.out (by rw[hF.size,Array.size_replicate]) j (by rw[hF.size];rw[Lib.decDigits_length]at hj;exact hj))
  rw[Lib.decDigits_length]at h
  exact h
 go_wp2
 go_ret
 obtain⟨os,eo⟩:=Lib.fin_at w (.cells Lib.zeros24 171) dk k 0
 exact⟨rfl,k,os,eo⟩
theorem formatUint_any (u:Nat) (hu:100≤u) (hu64:u<18446744073709551616) (w:World) (htab:Tab w):
 Calls Tryz.prog 305 #[.int .u64 u,.int .i64 10] w fun e w'=>e=.returned (.string ⟨(Lib.decDigits u).toArray⟩)∧Below w.heap.size w w':=by
 have h:=formatUint_in u hu hu64 w htab.is
 have H:=Lib.hid h
 clear h
 go_enter Tryz.func305,Tryz.ntmps305
 go_wp2_with fail
 refine H.out.mono ?_
 rintro e w' ⟨rfl,k,os,rfl⟩
 go_wp2_with fail
 go_ret
 exact⟨rfl,Lib.below_grow _ w (Nat.le_refl _) k os⟩
theorem appendUint_any (u:Nat) (hu64:u<18446744073709551616) (w:World) (htab:Tab w):
 Calls Tryz.prog 304 #[.slice none 0 0,.int .u64 u,.int .i64 10] w fun e w'=>∃v',e=.returned v'∧w'.ownsRow w.heap.size 5 1 v' (Lib.decDigits u).length (Lib.byteCells (Lib.decDigits u))∧Below w.heap.size w w':=by
 have h:Calls Tryz.prog 315 #[.slice none 0 0,.int .u64 u,.int .i64 10] w fun e w'=>∃v',e=.returned v'∧w'.ownsRow w.heap.size 5 1 v' (0+(Lib.decDigits u).length) ([]++Lib.byteCells (Lib.decDigits u))∧Below w.heap.size w w'∧Lib.OthersKept 5 none w w':=by
  by_cases hu:u<100
  · exact Tryz.internal_strconv_AppendUint_10_small w.heap.size 0 u hu _ [] w (World.ownsRow_nil _ _ _ _) (Nat.le_refl _) (by omega)
  · exact Tryz.internal_strconv_AppendUint_10_big w.heap.size 0 u (by omega) hu64 _ [] w (World.ownsRow_nil _ _ _ _) (Nat.le_refl _) (by omega) htab.is
 simp only[Nat.zero_add,List.nil_append]at h
 have H:=Lib.hid h
 clear h
 go_enter Tryz.func304,Tryz.ntmps304
 go_wp2_with fail
 refine H.out.mono ?_
 rintro e w' ⟨v',rfl,h1,h2,_⟩
 go_wp2_with fail
 go_ret
 exact⟨v',rfl,h1,h2⟩
end Go.Proofs.YtbijncndjlmmdaaGreatDoor
namespace Go.Proofs.YtbijncndjlmmdaaGreatDoor
set_option linter.unusedVariables false
set_option linter.unusedSimpArgs false
open Go.RowKit
theorem vdrop_lt {l:List Nat} (ol:Ok l) (k:Nat):val (l.drop k)<10^(9*l.length):=by
 have h1:=val_lt (ok_drop ol k)
 have h2:1000000000^(l.drop k).length≤1000000000^l.length:=Nat.pow_le_pow_right (by decide) (by simp)
 rw[Nat.pow_mul]
 exact Nat.lt_of_lt_of_le h1 h2
theorem digs_le {l:List Nat} (ol:Ok l) (hne:l≠[]) (k:Nat):(Lib.decDigits (val (l.drop k))).length≤9*l.length:=
 (decDigits_len_le (by have:=List.length_pos_iff.2 hne;omega)).2 (vdrop_lt ol k)
theorem vdrop_pos {l:List Nat} (nl:Norm l) {k:Nat} (hk:k<l.length):0<val (l.drop k):=by
 obtain⟨m,a,rfl,ha⟩:=norm_last nl (by rintro rfl;simp at hk)
 rw[List.length_append]at hk
 simp only[List.length_cons,List.length_nil]at hk
 rw[List.drop_append_of_le_length (by omega),val_snoc]
 have:0<1000000000^(m.drop k).length*a:=Nat.mul_pos (Nat.pow_pos (by decide)) (by omega)
 omega
theorem fig_join {l:List Nat} (ol:Ok l) (nl:Norm l) {k:Nat} (hk:k+1<l.length):
 Lib.decDigits (val (l.drop (k+1)))++(Lib.decDigits (1000000000+l[k]'(by omega))).drop 1=Lib.decDigits (val (l.drop k)):=by
 rw[List.drop_eq_getElem_cons (show k<l.length by omega),val_cons,Nat.add_comm (l[k]'(by omega)),Nat.mul_comm 1000000000]
 exact decDigits_join (k:=9) (vdrop_pos nl hk) (ok_get ol (by omega))
theorem own_bytes {w:World} {base n:Nat} {v:Value} {l:List UInt8} (h:w.ownsRow base 5 1 v n (Lib.byteCells l)) (hn:n=l.length) (hne:l≠[]):∃g c,v=.slice (some ⟨g,0,none⟩) n c∧
 (convert 175 9 (.slice (some ⟨g,0,none⟩) n c)).run Tryz.prog w=.ok (.string ⟨l.toArray⟩) w:=by
 rcases h.2 with⟨_,h0⟩|⟨g,cap,cur,rfl,_,hg,h1,h2,h3,h4⟩
 · exact absurd (List.eq_nil_of_length_eq_zero (hn▸h0)) hne
 · subst hn
   refine⟨g,cap,rfl,run_convert_bytes_back (P:=Tryz.prog) w 175 9 5 ⟨g,0,none⟩ cap l Tryz.underlying175 Tryz.underlying5 Tryz.underlying9 (fun j hj=> ?_)⟩
   rw[Lib.add_plain,cell_of_row w g (0+j) cur 5 (0,0) hg,Nat.zero_add]
   have:(cur.toList.take (l.length*1))[j]?=(Lib.byteCells l)[j]?:=by rw[h4]
   rw[List.getElem?_take_of_lt (by omega)]at this
   rw[←Array.getElem?_toList,this]
   simp[Lib.byteCells,hj]
theorem own_below {w w':World} {base e n:Nat} {v:Value} {xs:List Value} (h:w.ownsRow base e 1 v n xs) (hb:Below w.heap.size w w'):w'.ownsRow base e 1 v n xs:=by
 refine⟨h.1,?_⟩
 rcases h.2 with h0|⟨g,cap,cur,e1,e2,hg,h2⟩
 · exact .inl h0
 · exact .inr ⟨g,cap,cur,e1,e2,(hb.block g (Array.getElem?_eq_some_iff.1 hg).1).trans hg,h2⟩
theorem figures_any (A:Option Addr) (l:List Nat) (c:Nat) (w:World) (hA:Sz w A l) (ol:Ok l) (nl:Norm l) (hl:l.length≤1000) (htab:Tab w):
 Calls Tryz.prog 284 #[.slice A l.length c] w fun e w'=>e=.returned (.string ⟨(Lib.decDigits (val l)).toArray⟩)∧Below w.heap.size w w':=by
 by_cases hne:l=[]
 · subst hne
   have h0:Lib.decDigits (val [])=[48]:=by rw[val_nil,decDigits_small (by omega)];rfl
   rw[h0]
   have hz:(((([]:List Nat).length:Nat):Int)==0)=true:=by rfl
   go_enter Tryz.func284,Tryz.ntmps284
   go_wp2_with fail
   go_ret
   exact⟨rfl,Below.refl _ _⟩
 · obtain⟨b,o,rfl,hlt,hcell⟩:=hA.at_ hne
   have h1:1≤l.length:=List.length_pos_iff.2 hne
   obtain⟨n,hn⟩:∃n,l.length=n+1:=⟨l.length-1,by omega⟩
   have hcn:=hcell n (by omega)
   have hln:=ok_get ol (show n<l.length by omega)
   have hz:(((n:Int)+1)==0)=false:=by simp;omega
   obtain⟨i0,hi,hz0,hz1,hz2⟩:=info_parts (show(Tryz.prog.info? 5).map (fun i=>(i.zero,i.size,i.bytes))=some (some (.int .u8 0),1,1)by kernel_rfl)
   have hst:l.drop n=[l[n]]:=by rw[List.drop_eq_getElem_cons (by omega),List.drop_of_length_le (by omega)]
   have hst2:Lib.decDigits (val (l.drop n))=Lib.decDigits l[n]:=by rw[hst];simp[val]
   have HS:=Lib.hid hst2
   have HL:=Lib.hid hn
   rw[hn]
   clear hst hst2 hA
   go_enter Tryz.func284,Tryz.ntmps284
   go_wp2_with fail
   refine(appendUint_any l[n] (by omega) _ htab).mono ?_
   rintro e w1 ⟨v1,rfl,hown,hb⟩
   rw[←HS.out]at hown
   have htab1:=htab.below hb
   go_wp2_with fail
   go_loopw [4,5] (fun v iv wr=>∃(k n':Nat),k≤n∧iv=.int .i64 ((k:Int)-1)∧n'=(Lib.decDigits (val (l.drop k))).length∧wr.ownsRow w.heap.size 5 1 v n' (Lib.byteCells (Lib.decDigits (val (l.drop k))))∧Below w.heap.size w wr) (fun _ iv _=>(intOf iv+1).toNat)
   case atStart=>exact⟨n,_,Nat.le_refl _,rfl,rfl,hown,hb⟩
   case round=>
    clear hown hb htab1 HS hcn hln
    obtain⟨k,n',hk,rfl,hn',hown,hB⟩:=hrel
    rcases k with _|k
    · obtain⟨g,c',hv,hcv⟩:=own_bytes hown hn' (decDigits_ne _)
      rw[List.drop_zero]at hcv
      clear hown hn'
      go_wp2_with fail
      go_ret
      exact⟨rfl,hB⟩
    · have hcl:=(hB.cell (p:=⟨b,o+k,none⟩) hlt).trans (hcell k (by omega))
      have hpl:=ok_get ol (show k<l.length by omega)
      have hJ:=Lib.hid (fig_join ol nl (k:=k) (by omega))
      have hle:=digs_le ol hne (k+1)
      rw[←hn']at hle
      have hpad:=(decDigits_pad (r:=l[k]) (k:=9) hpl).2.2
      have e1:((k+1:Nat):Int)-1=(k:Int):=by omega
      rw[e1]
      have HN:=Lib.hid hn'
      have HP:=Lib.hid hpad
      clear e1 hn' hpad
      go_wp2_with fail
      refine(formatUint_any (1000000000+l[k]) (by omega) (by omega) _ (htab.below hB)).mono ?_
      rintro e w2 ⟨rfl,hb2⟩
      have hown2:=own_below hown hb2
      have hB2:=hB.trans (hb2.mono hB.size)
      obtain⟨t,ht,ht1,ht2⟩:∃t:ByteArray,t=⟨(Lib.decDigits (1000000000+l[k])).toArray⟩∧t.size=10∧(t.extract 1 t.size).data.toList=(Lib.decDigits (1000000000+l[k])).drop 1:=by
       have h10:(Lib.decDigits (1000000000+l[k])).length=10:=by
        have:=HP.out
        rw[List.length_drop]at this
        show(Lib.decDigits (10^9+l[k])).length=10
        omega
       have h11:(⟨(Lib.decDigits (1000000000+l[k])).toArray⟩:ByteArray).size=10:=by simpa[ByteArray.size]using h10
       refine⟨_,rfl,h11,?_⟩
       rw[extract_toList,h11]
       show List.drop 1 (List.take 10 (Lib.decDigits (1000000000+l[k])))=_
       rw[List.take_of_length_le (by omega)]
      rw[←ht]
      have HT:=Lib.hid (And.intro ht ht2)
      have hts:(t.extract 1 t.size).size=9:=by
       have h12:(t.extract 1 t.size).data.toList.length=9:=by rw[ht2];exact HP.out
       rwa [Array.length_toList]at h12
      have HTS:=Lib.hid hts
      have ht1':(10:Int)≤(t.size:Int):=by omega
      have HT1:=Lib.hid ht1
      clear hown hb2 hB hts ht ht2 ht1 hcell
      go_wp2_with (at_builtin;(refine Lib.wpList_append_own_string _ rfl (.tmp 32) (.tmp 34) 175 9 rfl w.heap.size 5 i0 Tryz.underlying175 Tryz.underlying9 hi hz0 hz1 hz2 _ n' _ rfl hown2 (t.extract 1 t.size) rfl ?c1 ?c2 ?c3 ?_))
      case c1=>rw[HTS.out];unfold maxLen;omega
      case c2=>rw[HTS.out];omega
      case c3=>exact hB2.size
      intro v' w3 hown3 hgrow _
      have hB3:Below w.heap.size w w3:=hB2.grown hgrow hB2.size (fun q hq=>(hown2.lt q hq).1)
      clear hgrow hown2 hB2
      go_wp2_with fail
      go_roundw
      case rel=>
       refine⟨k,n'+(t.size-1),by omega,rfl,?_,?_,hB3⟩
       · rw[HT1.out,←hJ.out,List.length_append,HP.out,←HN.out]
       · rw[←hJ.out,Lib.byteCells_append,←HT.out.2]
         exact hown3
      case measure=>simp[intOf]
end Go.Proofs.YtbijncndjlmmdaaGreatDoor
namespace Go.Proofs.YtbijncndjlmmdaaGreatDoor
set_option linter.unusedVariables false
set_option linter.unusedSimpArgs false
open Go.RowKit
def NumV (w:World) (v:Value) (x:Int):Prop:=∃A l c,v=.agg #[.int .i64 x.sign,.slice A l.length c]∧Sz w A l∧Ok l∧Norm l∧val l=x.natAbs
theorem sign_mul_val {s:Int} {n:Nat} (hs:s=1∨s= -1):(s*(n:Int)).sign=(if n=0 then 0 else s)∧(s*(n:Int)).natAbs=n:=by
 rcases hs with rfl|rfl
 · rw[Int.one_mul]
   constructor
   · split
     · rename_i h;subst h;rfl
     · exact Int.sign_eq_one_of_pos (by omega)
   · omega
 · rw[show(-1:Int)*(n:Int)= -(n:Int)by omega]
   constructor
   · split
     · rename_i h;subst h;rfl
     · exact Int.sign_eq_neg_one_of_neg (by omega)
   · omega
def MadePost (x:Int) (w:World) (e:Ending) (w':World):Prop:=∃v,e=.returned v∧NumV w' v x∧Below w.heap.size w w'
theorem made_any (s:Int) (A:Option Addr) (l:List Nat) (c:Nat) (w:World) (hA:Sz w A l) (ol:Ok l) (nl:Norm l) (hs:s=1∨s= -1∨l=[]) (hl:l.length≤1000):
 Calls Tryz.prog 280 #[.int .i64 s,.slice A l.length c] w (MadePost (s*(val l:Int)) w):=by
 by_cases hne:l=[]
 · subst hne
   have hz:(((([]:List Nat).length:Nat):Int)==0)=true:=by rfl
   go_enter Tryz.func280,Tryz.ntmps280
   go_wp2_with fail
   exact bodyPost_ret (v:=.agg #[.int .i64 0,.slice none 0 0]) (by simp[results,Tryz.results280,go_sem]) rfl ⟨_,rfl,⟨none,[],0,by rw[val_nil];simp,.inl ⟨rfl,rfl⟩,ok_nil,norm_nil,by rw[val_nil];simp⟩,(Below.refl _ _).alloc (Nat.le_refl _) _⟩
 · have h1:1≤l.length:=List.length_pos_iff.2 hne
   have hz:(((l.length:Nat):Int)==0)=false:=by simp;omega
   have hs2:s=1∨s= -1:=hs.elim .inl fun h=>h.elim .inr fun h=>absurd h hne
   obtain⟨e1,e2⟩:=sign_mul_val (n:=val l) hs2
   rw[if_neg (fun h=>hne ((norm_val_zero nl).1 h))]at e1
   go_enter Tryz.func280,Tryz.ntmps280
   go_wp2_with fail
   exact bodyPost_ret (v:=.agg #[.int .i64 s,.slice A l.length c]) (by simp[results,Tryz.results280,go_sem]) rfl ⟨_,rfl,⟨A,l,c,by rw[e1],hA.below ((Below.refl _ _).alloc (Nat.le_refl _) _),ol,nl,e2.symm⟩,(Below.refl _ _).alloc (Nat.le_refl _) _⟩
def S (x:Int):ByteArray:=⟨(Lib.itoa x).toArray⟩
theorem S_pos {n:Nat} {x:Int} (h:x.natAbs=n) (h0:0≤x):S x=⟨(Lib.decDigits n).toArray⟩:=by
 unfold S Lib.itoa;rw[if_neg (by omega),show x.toNat=n by omega]
theorem S_neg {n:Nat} {x:Int} (h:x.natAbs=n) (h0:x<0):S x=⟨(45::Lib.decDigits n).toArray⟩:=by
 unfold S Lib.itoa;rw[if_pos h0,h]
theorem cat_hyphen (l:List UInt8):(⟨#[45]⟩:ByteArray)++⟨l.toArray⟩=⟨(45::l).toArray⟩:=by
 apply ByteArray.ext;simp[ByteArray.data_append]
theorem sign_nn {x:Int} (h:0≤x):decide (x.sign<0)=false:=by
 rcases Int.lt_or_eq_of_le h with h|h
 · rw[Int.sign_eq_one_of_pos h];rfl
 · subst h;rfl
theorem digs_le0 {l:List Nat} (ol:Ok l) (hl:l.length≤1000):(Lib.decDigits (val l)).length≤9000:=by
 by_cases hne:l=[]
 · subst hne;rw[val_nil,decDigits_small (by omega)];simp
 · have:=digs_le ol hne 0
   rw[List.drop_zero]at this;omega
theorem isBelow_any (s:Int) (b:Bool) (hb:decide (s<0)=b) (w:World):Calls Tryz.prog 294 #[.int .i64 s] w fun e w'=>e=.returned (.bool b)∧w=w':=by
 subst hb
 by_cases h:s<0
 · go_enter Tryz.func294,Tryz.ntmps294
   go_wp2_with fail
   go_ret
   exact⟨by simp[h],rfl⟩
 · go_enter Tryz.func294,Tryz.ntmps294
   go_wp2_with fail
   go_ret
   exact⟨by simp[h],rfl⟩
theorem isZero_any (s:Int) (b:Bool) (hb:(s==0)=b) (w:World):Calls Tryz.prog 268 #[.int .i64 s] w fun e w'=>e=.returned (.bool b)∧w=w':=by
 go_enter Tryz.func268,Tryz.ntmps268
 go_wp2_with fail
 go_ret
 exact⟨rfl,rfl⟩
theorem text_any (x:Int) (A:Option Addr) (l:List Nat) (c:Nat) (w:World) (hA:Sz w A l) (ol:Ok l) (nl:Norm l) (hv:val l=x.natAbs) (hl:l.length≤1000) (htab:Tab w):
 Calls Tryz.prog 274 #[.agg #[.int .i64 x.sign,.slice A l.length c]] w fun e w'=>e=.returned (.string (S x))∧Below w.heap.size w w':=by
 have hf:=fun(w1:World) (h1:Below w.heap.size w w1)=>figures_any A l c w1 (hA.below h1) ol nl hl (htab.below h1)
 have HF:=Lib.hid hf
 clear hf
 by_cases h0:x<0
 · have hs:x.sign= -1:=Int.sign_eq_neg_one_of_neg h0
   rw[hs]
   have HS:=Lib.hid (S_neg rfl h0)
   have hdl:=digs_le0 ol hl
   rw[hv]at HF hdl
   clear hs hv
   go_enter Tryz.func274,Tryz.ntmps274
   go_wp2_with fail
   refine(isBelow_any _ true rfl _).mono ?_
   rintro e w1 ⟨rfl,rfl⟩
   go_wp2_with fail
   refine(HF.out _ ((Below.refl _ _).alloc (Nat.le_refl _) _)).mono ?_
   rintro e w1 ⟨rfl,hb⟩
   go_wp2_with fail
   go_ret
   exact⟨ret_str (by rw[HS.out,←cat_hyphen];rfl),((Below.refl _ _).alloc (Nat.le_refl _) _).trans (hb.mono (by simp))⟩
 · have hs:=sign_nn (x:=x) (by omega)
   have HS:=Lib.hid (S_pos rfl (by omega:0≤x))
   rw[hv]at HF
   have HB:=Lib.hid (isBelow_any _ _ hs)
   clear hs hv
   go_enter Tryz.func274,Tryz.ntmps274
   go_wp2_with fail
   refine(HB.out _).mono ?_
   rintro e w1 ⟨rfl,rfl⟩
   go_wp2_with fail
   refine(HF.out _ ((Below.refl _ _).alloc (Nat.le_refl _) _)).mono ?_
   rintro e w1 ⟨rfl,hb⟩
   go_wp2_with fail
   go_ret
   exact⟨ret_str HS.out.symm,((Below.refl _ _).alloc (Nat.le_refl _) _).trans (hb.mono (by simp))⟩
end Go.Proofs.YtbijncndjlmmdaaGreatDoor
namespace Go.Proofs.YtbijncndjlmmdaaGreatDoor
set_option linter.unusedVariables false
set_option linter.unusedSimpArgs false
open Go.RowKit
def lim:Nat:=10^100
theorem lim_pos:0<lim:=by unfold lim;exact Nat.pow_pos (by decide)
theorem digs_lim (n:Nat):(Lib.decDigits n).length≤100↔n<lim:=by unfold lim;exact decDigits_len_le (by decide)
def told (x:Int):Value:=if x.natAbs<lim then .tuple #[.string (S x),.int .i64 0]else .tuple #[.string ⟨#[]⟩,.int .i64 8]
theorem told_yes {x:Int} (h:x.natAbs<lim):told x=.tuple #[.string (S x),.int .i64 0]:=by unfold told;rw[if_pos h]
theorem told_no {x:Int} (h:¬x.natAbs<lim):told x=.tuple #[.string ⟨#[]⟩,.int .i64 8]:=by unfold told;rw[if_neg h]
theorem told_any (x:Int) (A:Option Addr) (l:List Nat) (c:Nat) (w:World) (hA:Sz w A l) (ol:Ok l) (nl:Norm l) (hv:val l=x.natAbs) (hl:l.length≤1000) (htab:Tab w):
 Calls Tryz.prog 262 #[.agg #[.int .i64 x.sign,.slice A l.length c]] w fun e w'=>e=.returned (told x)∧Below w.heap.size w w':=by
 have hf:=fun(w1:World) (h1:Below w.heap.size w w1)=>figures_any A l c w1 (hA.below h1) ol nl hl (htab.below h1)
 have ht:=fun(w1:World) (h1:Below w.heap.size w w1)=>text_any x A l c w1 (hA.below h1) ol nl hv hl (htab.below h1)
 rw[hv]at hf
 obtain⟨t,hts⟩:∃t:ByteArray,t=⟨(Lib.decDigits x.natAbs).toArray⟩:=⟨_,rfl⟩
 have hsz:t.size=(Lib.decDigits x.natAbs).length:=by rw[hts];simp[ByteArray.size]
 rw[←hts]at hf
 obtain⟨sg,hsg⟩:∃sg,sg=x.sign:=⟨_,rfl⟩
 rw[←hsg]at ht ⊢
 have HF:=Lib.hid hf
 have HT:=Lib.hid ht
 by_cases hlim:x.natAbs<lim
 · have h1:t.size≤100:=by rw[hsz];exact(digs_lim _).2 hlim
   have HE:=Lib.hid (told_yes hlim)
   clear hf ht hts hsz hv hsg hlim
   go_enter Tryz.func262,Tryz.ntmps262
   go_wp2_with fail
   refine(HF.out _ ((Below.refl _ _).alloc (Nat.le_refl _) _)).mono ?_
   rintro e w1 ⟨rfl,hb⟩
   have hb1:Below w.heap.size w w1:=((Below.refl _ _).alloc (Nat.le_refl _) _).trans (hb.mono (by simp))
   have hc0:=hb.cell (p:=⟨w.heap.size,0,none⟩) (by simp)
   have hc1:=hb.cell (p:=⟨w.heap.size,1,none⟩) (by simp)
   clear hb
   go_wp2_with fail
   refine(HT.out _ hb1).mono ?_
   rintro e w2 ⟨rfl,hb2⟩
   go_wp2_with fail
   go_ret2
   exact⟨by rw[HE.out];rfl,hb1.trans (hb2.mono hb1.size)⟩
 · have h1:¬t.size≤100:=by rw[hsz];exact fun h=>hlim ((digs_lim _).1 h)
   have HE:=Lib.hid (told_no hlim)
   clear hf ht hts hsz hv hsg hlim
   go_enter Tryz.func262,Tryz.ntmps262
   go_wp2_with fail
   refine(HF.out _ ((Below.refl _ _).alloc (Nat.le_refl _) _)).mono ?_
   rintro e w1 ⟨rfl,hb⟩
   have hb1:Below w.heap.size w w1:=((Below.refl _ _).alloc (Nat.le_refl _) _).trans (hb.mono (by simp))
   clear hb
   go_wp2_with fail
   go_ret2
   exact⟨by rw[HE.out];rfl,hb1⟩
theorem sign_neg_ (x:Int):(-x).sign= -x.sign:=Int.sign_neg x
theorem negated_any (x:Int) (A:Option Addr) (l:List Nat) (c:Nat) (w:World) (hA:Sz w A l) (ol:Ok l) (nl:Norm l) (hv:val l=x.natAbs):
 Calls Tryz.prog 264 #[.agg #[.int .i64 x.sign,.slice A l.length c]] w (MadePost (-x) w):=by
 have h1: -1≤x.sign∧x.sign≤1:=by
  rcases Int.lt_trichotomy x 0 with h|h|h
  · rw[Int.sign_eq_neg_one_of_neg h];omega
  · subst h;simp
  · rw[Int.sign_eq_one_of_pos h];omega
 have h2:=sign_neg_ x
 obtain⟨sg,hsg⟩:∃sg,sg=x.sign:=⟨_,rfl⟩
 rw[←hsg]at h1 h2 ⊢
 have H2:=Lib.hid h2
 clear h2 hsg
 go_enter Tryz.func264,Tryz.ntmps264
 go_wp2_with fail
 have hb:Below w.heap.size w ((w.alloc (.cells #[.int .i64 sg,.slice A l.length c] 225)).alloc (.cells #[.int .i64 (-sg),.slice A l.length c] 225)):=((Below.refl _ _).alloc (Nat.le_refl _) _).alloc (by simp) _
 exact bodyPost_ret (v:=.agg #[.int .i64 (-sg),.slice A l.length c]) (by simp[results,Tryz.results264,go_sem]) rfl ⟨_,rfl,⟨A,l,c,by rw[H2.out],hA.below hb,ol,nl,by rw[hv];omega⟩,hb⟩
theorem cmp_signs (x y:Int) (h:cmpI x.sign y.sign≠0):cmpI x.sign y.sign=cmpI x y:=by
 unfold cmpI at*
 rcases Int.lt_trichotomy x 0 with hx|hx|hx<;>rcases Int.lt_trichotomy y 0 with hy|hy|hy
 all_goals first
  |rw[Int.sign_eq_neg_one_of_neg hx]at*
  |rw[Int.sign_eq_one_of_pos hx]at*
  |(rw[hx]at*;rw[Int.sign_zero]at*)
 all_goals first
  |rw[Int.sign_eq_neg_one_of_neg hy]at*
  |rw[Int.sign_eq_one_of_pos hy]at*
  |(rw[hy]at*;rw[Int.sign_zero]at*)
 all_goals first
  |(exfalso;exact h (by decide))
  |(rw[if_pos (by decide),if_pos (by omega)])
  |(rw[if_neg (by decide),if_pos (by decide),if_neg (by omega),if_pos (by omega)])
end Go.Proofs.YtbijncndjlmmdaaGreatDoor
namespace Go.Proofs.YtbijncndjlmmdaaGreatDoor
set_option linter.unusedVariables false
set_option linter.unusedSimpArgs false
open Go.RowKit
def figs (l:List UInt8):List UInt8:=Lib.trimPrefix l [45]
def AllDigB (l:List UInt8):Bool:=l.all fun c=>decide (48≤c.toNat)&&decide (c.toNat≤57)
theorem allDigB {l:List UInt8}:AllDigB l=true↔AllDig l:=by simp[AllDigB,AllDig]
def mayL (l:List UInt8):Bool:=decide (1≤(figs l).length)&&decide ((figs l).length≤100)&&AllDigB (figs l)&&(decide ((figs l).head?≠some 48)||decide (l=[48]))
theorem figs_neg (l:List UInt8):figs (45::l)=l:=by simp[figs,Lib.trimPrefix,Lib.hasPrefix,List.isPrefixOf]
theorem figs_pos {l:List UInt8} (h:l.head?≠some 45):figs l=l:=by
 cases l with
 |nil=>rfl
 |cons c r=>
  have hc:c≠45:=by intro e;exact h (by rw[e];rfl)
  have:Lib.hasPrefix (c::r) [45]=false:=by
   simp only[Lib.hasPrefix,List.isPrefixOf]
   simp;exact fun e=>hc e.symm
  unfold figs Lib.trimPrefix
  rw[this];rfl
theorem dec_head (n:Nat):(Lib.decDigits n).head?≠some 45:=by
 intro h
 obtain⟨c,r,e⟩:∃c r,Lib.decDigits n=c::r:=by
  cases h2:Lib.decDigits n with
  |nil=>exact absurd h2 (decDigits_ne n)
  |cons c r=>exact⟨c,r,rfl⟩
 have hd:=decDigits_dig n
 rw[e]at h hd
 injection h with h
 have:=(allDig_cons.1 hd).1
 rw[h]at this
 exact absurd this.1 (by decide)
theorem itoa_pos {x:Int} (h:0≤x):Lib.itoa x=Lib.decDigits x.natAbs:=by
 unfold Lib.itoa;rw[if_neg (by omega),show x.toNat=x.natAbs by omega]
theorem itoa_neg {x:Int} (h:x<0):Lib.itoa x=45::Lib.decDigits x.natAbs:=by
 unfold Lib.itoa;rw[if_pos h]
theorem figs_itoa (x:Int):figs (Lib.itoa x)=Lib.decDigits x.natAbs:=by
 by_cases h:x<0
 · rw[itoa_neg h,figs_neg]
 · rw[itoa_pos (by omega),figs_pos (dec_head _)]
theorem mayL_itoa (x:Int):mayL (Lib.itoa x)=true↔x.natAbs<lim:=by
 unfold mayL
 rw[figs_itoa]
 have h1:=decDigits_len_pos x.natAbs
 have h2:AllDigB (Lib.decDigits x.natAbs)=true:=allDigB.2 (decDigits_dig _)
 have h3:(decide ((Lib.decDigits x.natAbs).head?≠some 48)||decide (Lib.itoa x=[48]))=true:=by
  by_cases h0:x=0
  · subst h0
    rw[itoa_pos (Int.le_refl _),show(0:Int).natAbs=0 from rfl,decDigits_small (by omega)];rfl
  · obtain⟨c,r,e,hc⟩:=decDigits_head x.natAbs (by omega)
    rw[e]
    have:(c::r).head?≠some 48:=by
     intro h;injection h with h;rw[h]at hc;exact hc rfl
    rw[Bool.or_eq_true];exact .inl (decide_eq_true this)
 rw[h2,h3]
 simp only[Bool.and_true,Bool.and_eq_true,decide_eq_true_eq]
 rw[digs_lim]
 exact⟨fun h=>h.2,fun h=>⟨h1,h⟩⟩
theorem mayL_is {l:List UInt8} (h:mayL l=true):∃x:Int,l=Lib.itoa x∧x.natAbs<lim:=by
 have h0:=h
 unfold mayL at h
 simp only[Bool.and_eq_true,decide_eq_true_eq,Bool.or_eq_true]at h
 obtain⟨⟨⟨h1,h2⟩,h3⟩,h4⟩:=h
 have h3:=allDigB.1 h3
 suffices hs:∃x:Int,l=Lib.itoa x by
  obtain⟨x,rfl⟩:=hs
  exact⟨x,rfl,(mayL_itoa x).1 h0⟩
 by_cases hz:l=[48]
 · exact⟨0,by rw[hz,itoa_pos (Int.le_refl _),show(0:Int).natAbs=0 from rfl,decDigits_small (by omega)];rfl⟩
 · have h4:(figs l).head?≠some 48:=by rcases h4 with h|h;exact h;exact absurd h hz
   obtain⟨c,r,e⟩:∃c r,figs l=c::r:=by
    cases hf:figs l with
    |nil=>rw[hf]at h1;simp at h1
    |cons c r=>exact⟨c,r,rfl⟩
   have hc:c.toNat≠48:=by
    intro hc;apply h4;rw[e];exact congrArg some (u8_ext hc)
   have hd:=decDigits_of (figs l) h3 (by rw[e];simp) (.inr ⟨c,r,e,hc⟩)
   have hpos:0<dval (figs l):=by
    rw[e]at h3 ⊢
    rw[dval_cons]
    have:=(allDig_cons.1 h3).1
    have:0<(c.toNat-48)*10^r.length:=Nat.mul_pos (by omega) (Nat.pow_pos (by decide))
    omega
   by_cases hn:l.head?=some 45
   · obtain⟨r',rfl⟩:∃r',l=45::r':=by
      cases l with
      |nil=>cases hn
      |cons a r'=>injection hn with hn;subst hn;exact⟨r',rfl⟩
     rw[figs_neg]at hd hpos
     exact⟨-(dval r':Int),by rw[itoa_neg (by omega),show(-(dval r':Int)).natAbs=dval r' by omega,←hd]⟩
   · rw[figs_pos hn]at hd hpos
     exact⟨(dval l:Int),by rw[itoa_pos (by omega),show((dval l:Int)).natAbs=dval l by omega,←hd]⟩
theorem itoa_inj {x y:Int} (h:Lib.itoa x=Lib.itoa y):x=y:=by
 have h1:=congrArg figs h
 rw[figs_itoa,figs_itoa]at h1
 have h2:=decDigits_inj h1
 by_cases hx:x<0<;>by_cases hy:y<0
 · omega
 · rw[itoa_neg hx,itoa_pos (by omega)]at h
   exact absurd (congrArg List.head? h.symm) (dec_head _)
 · rw[itoa_neg hy,itoa_pos (by omega)]at h
   exact absurd (congrArg List.head? h) (dec_head _)
 · omega
end Go.Proofs.YtbijncndjlmmdaaGreatDoor
namespace Go.Proofs.YtbijncndjlmmdaaGreatDoor
set_option linter.unusedVariables false
set_option linter.unusedSimpArgs false
open Go.RowKit
theorem get_take_dig {f:ByteArray} {k:Nat} (hk:k<f.size) (h:AllDig (f.data.toList.take k)) (hc:48≤(f[k]).toNat∧(f[k]).toNat≤57):AllDig (f.data.toList.take (k+1)):=by
 rw[take_snoc f k hk]
 exact allDig_append.2 ⟨h,allDig_cons.2 ⟨hc,allDig_nil⟩⟩
theorem not_dig_of {f:ByteArray} {k:Nat} (hk:k<f.size) (hc:¬(48≤(f[k]).toNat∧(f[k]).toNat≤57)):AllDigB f.data.toList=false:=by
 cases h:AllDigB f.data.toList
 · rfl
 · exact absurd (dig_get f k (allDigB.1 h) hk) hc
def MayPost (b:Bool) (w:World) (e:Ending) (w':World):Prop:=e=.returned (.bool b)∧w=w'
theorem ret_bool {a b:Bool} (h:a=b):Ending.returned (.bool a)=.returned (.bool b):=by rw[h]
theorem head_get {f:ByteArray} (h:0<f.size):f.data.toList.head?=some f[0]:=by
 have hl:0<f.data.toList.length:=by simpa using h
 cases hd:f.data.toList with
 |nil=>rw[hd]at hl;simp at hl
 |cons a r=>
  have:f.data.toList[0]'hl=f[0]:=rfl
  simp only[hd,List.getElem_cons_zero]at this
  rw[←this];rfl
theorem str_tl (s:ByteArray):s.toList=s.data.toList:=ByteArray.toList_eq s
theorem may_any (s:ByteArray) (w:World) (hs:s.size≤maxLen):
 Calls Tryz.prog 55 #[.string s] w (MayPost (mayL s.data.toList) w):=by
 obtain⟨f,hf⟩:∃f:ByteArray,f=⟨(Lib.trimPrefix s.data.toList [45]).toArray⟩:=⟨_,rfl⟩
 have hF:figs s.data.toList=f.data.toList:=by rw[hf];rfl
 have hfl:(f.data.toList).length=f.size:=by simp
 have hT:=Tryz.strings_TrimPrefix s ⟨#[45]⟩ w
 rw[show Lib.trimPrefix s.data.toList (⟨#[45]⟩:ByteArray).data.toList=Lib.trimPrefix s.data.toList [45]from rfl,←hf]at hT
 have hM:mayL s.data.toList=(decide (1≤f.size)&&decide (f.size≤100)&&AllDigB f.data.toList&&(decide (f.data.toList.head?≠some 48)||decide (s.data.toList=[48]))):=by
  unfold mayL;rw[hF,hfl]
 rw[hM]
 have HT:=Lib.hid hT
 clear hM hT hF hf hfl
 by_cases h0:f.size=0
 · have e0:((f.size:Int)==0)=true:=by rw[h0];rfl
   go_enter Tryz.func55,Tryz.ntmps55
   go_wp2_with fail
   refine HT.out.mono ?_
   rintro e w1 ⟨rfl,rfl⟩
   go_wp2_with fail
   go_ret
   exact⟨ret_bool (by simp[h0]),rfl⟩
 · by_cases h1:100<f.size
   · have e0:((f.size:Int)==0)=false:=beq_eq_false_iff_ne.2 (by omega)
     go_enter Tryz.func55,Tryz.ntmps55
     go_wp2_with fail
     refine HT.out.mono ?_
     rintro e w1 ⟨rfl,rfl⟩
     go_wp2_with fail
     go_ret
     exact⟨ret_bool (by simp[show¬f.size≤100 by omega]),rfl⟩
   · have e0:((f.size:Int)==0)=false:=beq_eq_false_iff_ne.2 (by omega)
     have e1:¬(100:Int)<f.size:=by omega
     go_enter Tryz.func55,Tryz.ntmps55
     go_wp2_with fail
     refine HT.out.mono ?_
     rintro e w1 ⟨rfl,rfl⟩
     go_wp2_with fail
     go_loop [17] (fun i=>∃k:Nat,k≤f.size∧i=.int .i64 k∧AllDig (f.data.toList.take k)) (fun i=>f.size-(intOf i).toNat)
     case atStart=>exact⟨0,Nat.zero_le _,rfl,allDig_nil⟩
     case round=>
      obtain⟨k,hk,rfl,hI⟩:=hrel
      by_cases hlt:k<f.size
      · by_cases hc:48≤(f[k]).toNat∧(f[k]).toNat≤57
        · have hst:=get_take_dig hlt hI hc
          go_wp2_with fail
          go_round
          case rel=>exact⟨k+1,by omega,by go_num,hst⟩
          case measure=>simp[intOf];omega
        · have hnd:=not_dig_of hlt hc
          by_cases hc2:(f[k]).toNat<48
          · go_wp2_with fail
            go_ret
            exact⟨ret_bool (by simp[hnd]),rfl⟩
          · have hc3:57<(f[k]).toNat:=by omega
            go_wp2_with fail
            go_ret
            exact⟨ret_bool (by simp[hnd]),rfl⟩
      · rw[List.take_of_length_le (by simp;omega)]at hI
        have hh:=head_get (f:=f) (by omega)
        have hA:=allDigB.2 hI
        by_cases hc:f[0]=48
        · have hc':(((f[0]).toNat:Int) != 48)=false:=by rw[hc];rfl
          have HC:=Lib.hid hc
          have HH:=Lib.hid hh
          clear hc hh
          go_wp2_with fail
          go_ret
          refine⟨ret_bool ?_,rfl⟩
          rw[hA,HH.out,HC.out]
          show(s.toList==[48])=_
          rw[str_tl]
          simp[show 1≤f.size by omega,show f.size≤100 by omega]
          rw[Bool.eq_iff_iff,beq_iff_eq,decide_eq_true_eq]
        · have hc':(((f[0]).toNat:Int) != 48)=true:=by
           rw[bne_iff_ne];intro h;apply hc;exact u8_ext (by simpa using(by omega:(f[0]).toNat=48))
          go_wp2_with fail
          go_ret
          exact⟨ret_bool (by rw[hA,hh];simp[hc];omega),rfl⟩
end Go.Proofs.YtbijncndjlmmdaaGreatDoor
namespace Go.Proofs.YtbijncndjlmmdaaGreatDoor
set_option linter.unusedVariables false
set_option linter.unusedSimpArgs false
open Go.RowKit
theorem cmp_same_sign {x y:Int} (h:cmpI x.sign y.sign=0):x.sign*cmpN x.natAbs y.natAbs=cmpI x y:=by
 have hs:x.sign=y.sign:=by
  unfold cmpI at h
  split at h
  · cases h
  · split at h
    · cases h
    · omega
 unfold cmpN cmpI
 rcases Int.lt_trichotomy x 0 with hx|hx|hx
 · have hy:y<0:=by rw[Int.sign_eq_neg_one_of_neg hx]at hs;exact Int.neg_of_sign_eq_neg_one hs.symm
   rw[Int.sign_eq_neg_one_of_neg hx]
   rcases Nat.lt_trichotomy x.natAbs y.natAbs with a|a|a
   · rw[if_pos a,if_neg (by omega),if_pos (by omega)];rfl
   · rw[if_neg (by omega),if_neg (by omega),if_neg (by omega),if_neg (by omega)];rfl
   · rw[if_neg (by omega),if_pos a,if_pos (by omega)];rfl
 · subst hx
   have hy:y=0:=Int.eq_zero_of_sign_eq_zero hs.symm
   subst hy;rfl
 · have hy:0<y:=by rw[Int.sign_eq_one_of_pos hx]at hs;exact Int.pos_of_sign_eq_one hs.symm
   rw[Int.sign_eq_one_of_pos hx,Int.one_mul]
   rcases Nat.lt_trichotomy x.natAbs y.natAbs with a|a|a
   · rw[if_pos a,if_pos (by omega)]
   · rw[if_neg (by omega),if_neg (by omega),if_neg (by omega),if_neg (by omega)]
   · rw[if_neg (by omega),if_pos a,if_neg (by omega),if_pos (by omega)]
theorem cmpI_bd (a b:Int): -1≤cmpI a b∧cmpI a b≤1:=by unfold cmpI;split<;>(try split)<;>omega
theorem cmps_at {a b z:Int} (h:cmpI a b=z) (w:World):Calls Tryz.prog 289 #[.int .i64 a,.int .i64 b] w fun e w'=>e=.returned (.int .i64 z)∧w=w':=by
 rw[←h];exact cmps_any a b w
def CmpPost (z:Int) (w:World) (e:Ending) (w':World):Prop:=e=.returned (.int .i64 z)∧Below w.heap.size w w'
theorem compared_q {A B:Option Addr} {l m:List Nat} {c d:Nat} {w:World} (hA:Sz w A l) (hB:Sz w B m) (ol:Ok l) (om:Ok m) (nl:Norm l) (nm:Norm m) (hc:l.length≤maxLen) (hd:m.length≤maxLen) {z:Int} (hz:CmpVal l m=z) (n:Nat):
 Calls Tryz.prog 282 #[.slice A l.length c,.slice B m.length d] (w.drewN n) fun e w''=>e=.returned (.int .i64 z)∧∃k,w''=w.drewN k:=by
 subst hz
 refine(compared_any A B l m c d (w.drewN n) hA hB ol om nl nm hc hd).mono ?_
 rintro e w' ⟨rfl,k,rfl⟩
 exact⟨rfl,n+k,by rw[World.drewN_drewN]⟩
theorem against_any (x y:Int) (A B:Option Addr) (l m:List Nat) (c d:Nat) (w:World) (hA:Sz w A l) (hB:Sz w B m) (ol:Ok l) (om:Ok m) (nl:Norm l) (nm:Norm m) (hv:val l=x.natAbs) (hv':val m=y.natAbs) (hl:l.length≤1000) (hm:m.length≤1000):
 Calls Tryz.prog 272 #[.agg #[.int .i64 x.sign,.slice A l.length c],.agg #[.int .i64 y.sign,.slice B m.length d]] w (CmpPost (cmpI x y) w):=by
 by_cases hz:cmpI x.sign y.sign=0
 · have h1:=cmps_at hz
   have e1:=cmp_same_sign hz
   have hcv:CmpVal l m=cmpN x.natAbs y.natAbs:=by unfold CmpVal;rw[hv,hv']
   have hq:=fun(w1:World) (h1:Below w.heap.size w w1)=>compared_q (c:=c) (d:=d) (hA.below h1) (hB.below h1) ol om nl nm (by unfold maxLen;omega) (by unfold maxLen;omega) hcv
   obtain⟨r,hr⟩:∃r,r=cmpI x y:=⟨_,rfl⟩
   have hr1:=cmpI_bd x y
   rw[←hr]at e1 hr1 ⊢
   generalize cmpN x.natAbs y.natAbs=cv at hq e1
   generalize x.sign=sx at h1 e1 ⊢
   generalize y.sign=sy at h1 ⊢
   have hw:IntKind.i64.wrap (sx*cv)=r:=by rw[e1];exact IntWalk.i64_in _ (by omega)
   have H1:=Lib.hid h1
   have HQ:=Lib.hid hq
   clear h1 hq hr e1 hz hcv hv hv'
   go_enter Tryz.func272,Tryz.ntmps272
   go_wp2_with fail
   refine(H1.out _).mono ?_
   rintro e w1 ⟨rfl,rfl⟩
   go_wp2_with fail
   go_quiet ((go_at_call 282;exact HQ.out _ (((Below.refl _ _).alloc (Nat.le_refl _) _).alloc (by simp) _) _))
   go_wp2_with fail
   go_ret
   exact⟨rfl,Below.trans (((Below.refl _ _).alloc (Nat.le_refl _) _).alloc (by simp) _) (Drawn.below ⟨_,rfl⟩)⟩
 · have e1:=cmp_signs x y hz
   obtain⟨r,hr⟩:∃r,r=cmpI x y:=⟨_,rfl⟩
   rw[←hr]at e1 ⊢
   have h1:=cmps_at e1
   have hr1:(r != 0)=true:=by rw[bne_iff_ne,←e1];exact hz
   have H1:=Lib.hid h1
   clear h1 hr e1 hz hv hv'
   go_enter Tryz.func272,Tryz.ntmps272
   go_wp2_with fail
   refine(H1.out _).mono ?_
   rintro e w1 ⟨rfl,rfl⟩
   go_wp2_with fail
   go_ret
   exact⟨rfl,((Below.refl _ _).alloc (Nat.le_refl _) _).alloc (by simp) _⟩
end Go.Proofs.YtbijncndjlmmdaaGreatDoor

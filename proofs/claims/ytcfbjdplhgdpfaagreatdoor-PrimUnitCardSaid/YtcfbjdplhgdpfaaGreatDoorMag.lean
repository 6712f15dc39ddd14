import Derived.Test.YtcfbjdplhgdpfaaGreatDoorMae
import Derived.Test.YtcfbjdplhgdpfaaGreatDoorMaf
import Derived.Lib.Walk
import Derived.Lib.ItoaWalk
import Derived.Lib.ItoaMem
import Derived.Lib.AppendIntMem
import Derived.Lib.Slices
import Derived.BigCall
import Derived.BigGuard
set_option maxHeartbeats 12800000
set_option maxRecDepth 100000
namespace Go.Proofs.YtcfbjdplhgdpfaaGreatDoor
set_option linter.unusedVariables false
set_option linter.unusedSimpArgs false
open Go.RowKit Go.Sort
def Tab (w:World):Prop:=Lib.TabBelow Tryz.prog w.heap.size w "internal/strconv.uint64pow10" .u64 Lib.pow10Tab
theorem Tab.is {w:World} (h:Tab w):Lib.TabIs Tryz.prog w "internal/strconv.uint64pow10" .u64 Lib.pow10Tab:=h w (Below.refl _ _)
theorem Tab.below {w w':World} (h:Tab w) (hb:Below w.heap.size w w'):Tab w':=fun w2 h2=>h w2 (hb.trans (h2.mono hb.size))
theorem formatUint_in (u:Nat) (hu:100≤u) (hu64:u<18446744073709551616) (w:World) (htab:Lib.TabIs Tryz.prog w "internal/strconv.uint64pow10" .u64 Lib.pow10Tab):
 Calls Tryz.prog 272 #[.int .u64 u,.int .i64 10] w fun e w'=>e=.returned (.string ⟨(Lib.decDigits u).toArray⟩)∧∃k os,w'=grow (w.drewN k) os:=by
 have hu1:1≤u:=by omega
 have hnd20:Lib.nDigits u≤20:=by have:=Lib.numDigits_eq u hu1 hu64;split at this<;>omega
 have hb3:Lib.nDigits u≤23:=by omega
 have hal:Tryz.prog.arrayLen 152=24:=by kernel_rfl
 have hsl:∀W,(Instr.sliceAt 152 (.pointer (some ⟨w.heap.size,0,none⟩)) none (some (.int .i64 (Lib.nDigits u:Int))) none).run Tryz.prog W=.ok (.slice (some ⟨w.heap.size,0,none⟩) (Lib.nDigits u) 24) W:=fun W=>by
  rw[run_sliceAt_array_h W 152 ⟨w.heap.size,0,none⟩ (by simp[Program.arrayLen,Program.elem,Tryz.underlying152]) .i64 (Lib.nDigits u:Int) (by omega) (by rw[hal];omega)]
  go_simp
 have hH0:=Lib.holds_zero0 w 152 (Lib.nDigits u) (by omega)
 have hfmt:=Tryz.internal_strconv_formatBase10 w.heap.size 0 24 u (Array.replicate (Lib.nDigits u) 0) (w.alloc (.cells Lib.zeros24 152)) hH0 (by rw[Array.size_replicate];exact Lib.lt_pow_nDigits u) hu64 (by rw[Array.size_replicate];omega)
 rw[Array.size_replicate]at hfmt
 have HH0:=Lib.hid hH0
 have HF:=Lib.hid hfmt
 have iu:(100:Int)≤(u:Int):=by omega
 have iu2:¬(u:Int)<100:=by omega
 clear hH0 hal hfmt
 go_enter Tryz.func272,Tryz.ntmps272
 go_wp2_with fail
 refine(Tryz.internal_strconv_numDigits u hu1 hu64 _ (Lib.tabIs_alloc htab _)).mono ?_
 rintro e w' ⟨rfl,rfl⟩
 go_wp2_with fail
 refine HF.out.mono ?_
 rintro e w' ⟨rfl,k,v',dk,rfl,hF⟩
 have hcv:(convert 137 9 (.slice (some ⟨w.heap.size,0,none⟩) (Lib.nDigits u) 24)).run Tryz.prog ((putRow (fun(b:UInt8)=>Value.int .u8 (b.toNat:Int)) (w.alloc (.cells Lib.zeros24 152)) w.heap.size 0 dk).drewN k)=.ok (.string ⟨(Lib.decDigits u).toArray⟩) ((putRow (fun(b:UInt8)=>Value.int .u8 (b.toNat:Int)) (w.alloc (.cells Lib.zeros24 152)) w.heap.size 0 dk).drewN k):=by
  have h:=run_convert_bytes_back (P:=Tryz.prog) ((putRow (fun(b:UInt8)=>Value.int .u8 (b.toNat:Int)) (w.alloc (.cells Lib.zeros24 152)) w.heap.size 0 dk).drewN k) 137 9 5 ⟨w.heap.size,0,none⟩ 24 (Lib.decDigits u) Tryz.underlying137 Tryz.underlying5 Tryz.underlying9 (fun j hj=>by
   rw[Lib.row_is_numeral hF j hj,Lib.add_plain,World.cell?_drewN]
   exact cell?_putRow (fun(b:UInt8)=>Value.int .u8 (b.toNat:Int)) _ w.heap.size 0 _ dk HH0.out (by rw[hF.size,Array.size_replicate]) j (by rw[hF.size];rw[Lib.decDigits_length]at hj;exact hj))
  rw[Lib.decDigits_length]at h
  exact h
 go_wp2
 go_ret
 obtain⟨os,eo⟩:=Lib.fin_at w (.cells Lib.zeros24 152) dk k 0
 exact⟨rfl,k,os,eo⟩
theorem formatUint_any (u:Nat) (hu:100≤u) (hu64:u<18446744073709551616) (w:World) (htab:Tab w):
 Calls Tryz.prog 263 #[.int .u64 u,.int .i64 10] w fun e w'=>e=.returned (.string ⟨(Lib.decDigits u).toArray⟩)∧Below w.heap.size w w':=by
 have h:=formatUint_in u hu hu64 w htab.is
 have H:=Lib.hid h
 clear h
 go_enter Tryz.func263,Tryz.ntmps263
 go_wp2_with fail
 refine H.out.mono ?_
 rintro e w' ⟨rfl,k,os,rfl⟩
 go_wp2_with fail
 go_ret
 exact⟨rfl,Lib.below_grow _ w (Nat.le_refl _) k os⟩
theorem appendUint_any (u:Nat) (hu64:u<18446744073709551616) (w:World) (htab:Tab w):
 Calls Tryz.prog 262 #[.slice none 0 0,.int .u64 u,.int .i64 10] w fun e w'=>∃v',e=.returned v'∧w'.ownsRow w.heap.size 5 1 v' (Lib.decDigits u).length (Lib.byteCells (Lib.decDigits u))∧Below w.heap.size w w':=by
 have h:Calls Tryz.prog 271 #[.slice none 0 0,.int .u64 u,.int .i64 10] w fun e w'=>∃v',e=.returned v'∧w'.ownsRow w.heap.size 5 1 v' (0+(Lib.decDigits u).length) ([]++Lib.byteCells (Lib.decDigits u))∧Below w.heap.size w w'∧Lib.OthersKept 5 none w w':=by
  by_cases hu:u<100
  · exact Tryz.internal_strconv_AppendUint_10_small w.heap.size 0 u hu _ [] w (World.ownsRow_nil _ _ _ _) (Nat.le_refl _) (by omega)
  · exact Tryz.internal_strconv_AppendUint_10_big w.heap.size 0 u (by omega) hu64 _ [] w (World.ownsRow_nil _ _ _ _) (Nat.le_refl _) (by omega) htab.is
 simp only[Nat.zero_add,List.nil_append]at h
 have H:=Lib.hid h
 clear h
 go_enter Tryz.func262,Tryz.ntmps262
 go_wp2_with fail
 refine H.out.mono ?_
 rintro e w' ⟨v',rfl,h1,h2,_⟩
 go_wp2_with fail
 go_ret
 exact⟨v',rfl,h1,h2⟩
end Go.Proofs.YtcfbjdplhgdpfaaGreatDoor
namespace Go.Proofs.YtcfbjdplhgdpfaaGreatDoor
set_option linter.unusedVariables false
set_option linter.unusedSimpArgs false
open Go.RowKit
theorem vdrop_lt {l:List Nat} (ol:Ok l) (k:Nat):val (l.drop k)<10^(9*l.length):=by
 have h1:=val_lt (ok_drop ol k)
 have h2:1000000000^(l.drop k).length≤1000000000^l.length:=Nat.pow_le_pow_right (by decide) (by simp)
 rw[Nat.pow_mul]
 exact Nat.lt_of_lt_of_le h1 h2
theorem digs_le {l:List Nat} (ol:Ok l) (hne:l≠[]) (k:Nat):(Lib.decDigits (val (l.drop k))).length≤9*l.length:=
 (decDigits_len_le (by have:=List.length_pos_iff.2 hne;omega)).2 (vdrop_lt ol k)
theorem vdrop_pos {l:List Nat} (nl:Norm l) {k:Nat} (hk:k<l.length):0<val (l.drop k):=by
 obtain⟨m,a,rfl,ha⟩:=norm_last nl (by rintro rfl;simp at hk)
 rw[List.length_append]at hk
 simp only[List.length_cons,List.length_nil]at hk
 rw[List.drop_append_of_le_length (by omega),val_snoc]
 have:0<1000000000^(m.drop k).length*a:=Nat.mul_pos (Nat.pow_pos (by decide)) (by omega)
 omega
theorem fig_join {l:List Nat} (ol:Ok l) (nl:Norm l) {k:Nat} (hk:k+1<l.length):
 Lib.decDigits (val (l.drop (k+1)))++(Lib.decDigits (1000000000+l[k]'(by omega))).drop 1=Lib.decDigits (val (l.drop k)):=by
 rw[List.drop_eq_getElem_cons (show k<l.length by omega),val_cons,Nat.add_comm (l[k]'(by omega)),Nat.mul_comm 1000000000]
 exact decDigits_join (k:=9) (vdrop_pos nl hk) (ok_get ol (by omega))
theorem own_bytes {w:World} {base n:Nat} {v:Value} {l:List UInt8} (h:w.ownsRow base 5 1 v n (Lib.byteCells l)) (hn:n=l.length) (hne:l≠[]):∃g c,v=.slice (some ⟨g,0,none⟩) n c∧
 (convert 137 9 (.slice (some ⟨g,0,none⟩) n c)).run Tryz.prog w=.ok (.string ⟨l.toArray⟩) w:=by
 rcases h.2 with⟨_,h0⟩|⟨g,cap,cur,rfl,_,hg,h1,h2,h3,h4⟩
 · exact absurd (List.eq_nil_of_length_eq_zero (hn▸h0)) hne
 · subst hn
   refine⟨g,cap,rfl,run_convert_bytes_back (P:=Tryz.prog) w 137 9 5 ⟨g,0,none⟩ cap l Tryz.underlying137 Tryz.underlying5 Tryz.underlying9 (fun j hj=> ?_)⟩
   rw[Lib.add_plain,cell_of_row w g (0+j) cur 5 (0,0) hg,Nat.zero_add]
   have:(cur.toList.take (l.length*1))[j]?=(Lib.byteCells l)[j]?:=by rw[h4]
   rw[List.getElem?_take_of_lt (by omega)]at this
   rw[←Array.getElem?_toList,this]
   simp[Lib.byteCells,hj]
theorem own_below {w w':World} {base e n:Nat} {v:Value} {xs:List Value} (h:w.ownsRow base e 1 v n xs) (hb:Below w.heap.size w w'):w'.ownsRow base e 1 v n xs:=by
 refine⟨h.1,?_⟩
 rcases h.2 with h0|⟨g,cap,cur,e1,e2,hg,h2⟩
 · exact .inl h0
 · exact .inr ⟨g,cap,cur,e1,e2,(hb.block g (Array.getElem?_eq_some_iff.1 hg).1).trans hg,h2⟩
theorem figures_any (A:Option Addr) (l:List Nat) (c:Nat) (w:World) (hA:Sz w A l) (ol:Ok l) (nl:Norm l) (hl:l.length≤1000) (htab:Tab w):
 Calls Tryz.prog 246 #[.slice A l.length c] w fun e w'=>e=.returned (.string ⟨(Lib.decDigits (val l)).toArray⟩)∧Below w.heap.size w w':=by
 by_cases hne:l=[]
 · subst hne
   have h0:Lib.decDigits (val [])=[48]:=by rw[val_nil,decDigits_small (by omega)];rfl
   rw[h0]
   have hz:(((([]:List Nat).length:Nat):Int)==0)=true:=by rfl
   go_enter Tryz.func246,Tryz.ntmps246
   go_wp2_with fail
   go_ret
   exact⟨rfl,Below.refl _ _⟩
 · obtain⟨b,o,rfl,hlt,hcell⟩:=hA.at_ hne
   have h1:1≤l.length:=List.length_pos_iff.2 hne
   obtain⟨n,hn⟩:∃n,l.length=n+1:=⟨l.length-1,by omega⟩
   have hcn:=hcell n (by omega)
   have hln:=ok_get ol (show n<l.length by omega)
   have hz:(((n:Int)+1)==0)=false:=by simp;omega
   obtain⟨i0,hi,hz0,hz1,hz2⟩:=info_parts (show(Tryz.prog.info? 5).map (fun i=>(i.zero,i.size,i.bytes))=some (some (.int .u8 0),1,1)by kernel_rfl)
   have hst:l.drop n=[l[n]]:=by rw[List.drop_eq_getElem_cons (by omega),List.drop_of_length_le (by omega)]
   have hst2:Lib.decDigits (val (l.drop n))=Lib.decDigits l[n]:=by rw[hst];simp[val]
   have HS:=Lib.hid hst2
   have HL:=Lib.hid hn
   rw[hn]
   clear hst hst2 hA
   go_enter Tryz.func246,Tryz.ntmps246
   go_wp2_with fail
   refine(appendUint_any l[n] (by omega) _ htab).mono ?_
   rintro e w1 ⟨v1,rfl,hown,hb⟩
   rw[←HS.out]at hown
   have htab1:=htab.below hb
   go_wp2_with fail
   go_loopw [4,5] (fun v iv wr=>∃(k n':Nat),k≤n∧iv=.int .i64 ((k:Int)-1)∧n'=(Lib.decDigits (val (l.drop k))).length∧wr.ownsRow w.heap.size 5 1 v n' (Lib.byteCells (Lib.decDigits (val (l.drop k))))∧Below w.heap.size w wr) (fun _ iv _=>(intOf iv+1).toNat)
   case atStart=>exact⟨n,_,Nat.le_refl _,rfl,rfl,hown,hb⟩
   case round=>
    clear hown hb htab1 HS hcn hln
    obtain⟨k,n',hk,rfl,hn',hown,hB⟩:=hrel
    rcases k with _|k
    · obtain⟨g,c',hv,hcv⟩:=own_bytes hown hn' (decDigits_ne _)
      rw[List.drop_zero]at hcv
      clear hown hn'
      go_wp2_with fail
      go_ret
      exact⟨rfl,hB⟩
    · have hcl:=(hB.cell (p:=⟨b,o+k,none⟩) hlt).trans (hcell k (by omega))
      have hpl:=ok_get ol (show k<l.length by omega)
      have hJ:=Lib.hid (fig_join ol nl (k:=k) (by omega))
      have hle:=digs_le ol hne (k+1)
      rw[←hn']at hle
      have hpad:=(decDigits_pad (r:=l[k]) (k:=9) hpl).2.2
      have e1:((k+1:Nat):Int)-1=(k:Int):=by omega
      rw[e1]
      have HN:=Lib.hid hn'
      have HP:=Lib.hid hpad
      clear e1 hn' hpad
      go_wp2_with fail
      refine(formatUint_any (1000000000+l[k]) (by omega) (by omega) _ (htab.below hB)).mono ?_
      rintro e w2 ⟨rfl,hb2⟩
      have hown2:=own_below hown hb2
      have hB2:=hB.trans (hb2.mono hB.size)
      obtain⟨t,ht,ht1,ht2⟩:∃t:ByteArray,t=⟨(Lib.decDigits (1000000000+l[k])).toArray⟩∧t.size=10∧(t.extract 1 t.size).data.toList=(Lib.decDigits (1000000000+l[k])).drop 1:=by
       have h10:(Lib.decDigits (1000000000+l[k])).length=10:=by
        have:=HP.out
        rw[List.length_drop]at this
        show(Lib.decDigits (10^9+l[k])).length=10
        omega
       have h11:(⟨(Lib.decDigits (1000000000+l[k])).toArray⟩:ByteArray).size=10:=by simpa[ByteArray.size]using h10
       refine⟨_,rfl,h11,?_⟩
       rw[extract_toList,h11]
       show List.drop 1 (List.take 10 (Lib.decDigits (1000000000+l[k])))=_
       rw[List.take_of_length_le (by omega)]
      rw[←ht]
      have HT:=Lib.hid (And.intro ht ht2)
      have hts:(t.extract 1 t.size).size=9:=by
       have h12:(t.extract 1 t.size).data.toList.length=9:=by rw[ht2];exact HP.out
       rwa [Array.length_toList]at h12
      have HTS:=Lib.hid hts
      have ht1':(10:Int)≤(t.size:Int):=by omega
      have HT1:=Lib.hid ht1
      clear hown hb2 hB hts ht ht2 ht1 hcell
      go_wp2_with (at_builtin;(refine Lib.wpList_append_own_string _ rfl (.tmp 32) (.tmp 34) 137 9 rfl w.heap.size 5 i0 Tryz.underlying137 Tryz.underlying9 hi hz0 hz1 hz2 _ n' _ rfl hown2 (t.extract 1 t.size) rfl ?c1 ?c2 ?c3 ?_))
      case c1=>rw[HTS.out];unfold maxLen;omega
      case c2=>rw[HTS.out];omega
      case c3=>exact hB2.size
      intro v' w3 hown3 hgrow _
      have hB3:Below w.heap.size w w3:=hB2.grown hgrow hB2.size (fun q hq=>(hown2.lt q hq).1)
      clear hgrow hown2 hB2
      go_wp2_with fail
      go_roundw
      case rel=>
       refine⟨k,n'+(t.size-1),by omega,rfl,?_,?_,hB3⟩
       · rw[HT1.out,←hJ.out,List.length_append,HP.out,←HN.out]
       · rw[←hJ.out,Lib.byteCells_append,←HT.out.2]
         exact hown3
      case measure=>simp[intOf]
end Go.Proofs.YtcfbjdplhgdpfaaGreatDoor
namespace Go.Proofs.YtcfbjdplhgdpfaaGreatDoor
set_option linter.unusedVariables false
set_option linter.unusedSimpArgs false
open Go.RowKit
def NumV (w:World) (v:Value) (x:Int):Prop:=∃A l c,v=.agg #[.int .i64 x.sign,.slice A l.length c]∧Sz w A l∧Ok l∧Norm l∧val l=x.natAbs
theorem sign_mul_val {s:Int} {n:Nat} (hs:s=1∨s= -1):(s*(n:Int)).sign=(if n=0 then 0 else s)∧(s*(n:Int)).natAbs=n:=by
 rcases hs with rfl|rfl
 · rw[Int.one_mul]
   constructor
   · split
     · rename_i h;subst h;rfl
     · exact Int.sign_eq_one_of_pos (by omega)
   · omega
 · rw[show(-1:Int)*(n:Int)= -(n:Int)by omega]
   constructor
   · split
     · rename_i h;subst h;rfl
     · exact Int.sign_eq_neg_one_of_neg (by omega)
   · omega
def MadePost (x:Int) (w:World) (e:Ending) (w':World):Prop:=∃v,e=.returned v∧NumV w' v x∧Below w.heap.size w w'
theorem made_any (s:Int) (A:Option Addr) (l:List Nat) (c:Nat) (w:World) (hA:Sz w A l) (ol:Ok l) (nl:Norm l) (hs:s=1∨s= -1∨l=[]) (hl:l.length≤1000):
 Calls Tryz.prog 243 #[.int .i64 s,.slice A l.length c] w (MadePost (s*(val l:Int)) w):=by
 by_cases hne:l=[]
 · subst hne
   have hz:(((([]:List Nat).length:Nat):Int)==0)=true:=by rfl
   go_enter Tryz.func243,Tryz.ntmps243
   go_wp2_with fail
   exact bodyPost_ret (v:=.agg #[.int .i64 0,.slice none 0 0]) (by simp[results,Tryz.results243,go_sem]) rfl ⟨_,rfl,⟨none,[],0,by rw[val_nil];simp,.inl ⟨rfl,rfl⟩,ok_nil,norm_nil,by rw[val_nil];simp⟩,(Below.refl _ _).alloc (Nat.le_refl _) _⟩
 · have h1:1≤l.length:=List.length_pos_iff.2 hne
   have hz:(((l.length:Nat):Int)==0)=false:=by simp;omega
   have hs2:s=1∨s= -1:=hs.elim .inl fun h=>h.elim .inr fun h=>absurd h hne
   obtain⟨e1,e2⟩:=sign_mul_val (n:=val l) hs2
   rw[if_neg (fun h=>hne ((norm_val_zero nl).1 h))]at e1
   go_enter Tryz.func243,Tryz.ntmps243
   go_wp2_with fail
   exact bodyPost_ret (v:=.agg #[.int .i64 s,.slice A l.length c]) (by simp[results,Tryz.results243,go_sem]) rfl ⟨_,rfl,⟨A,l,c,by rw[e1],hA.below ((Below.refl _ _).alloc (Nat.le_refl _) _),ol,nl,e2.symm⟩,(Below.refl _ _).alloc (Nat.le_refl _) _⟩
def S (x:Int):ByteArray:=⟨(Lib.itoa x).toArray⟩
theorem S_pos {n:Nat} {x:Int} (h:x.natAbs=n) (h0:0≤x):S x=⟨(Lib.decDigits n).toArray⟩:=by
 unfold S Lib.itoa;rw[if_neg (by omega),show x.toNat=n by omega]
theorem S_neg {n:Nat} {x:Int} (h:x.natAbs=n) (h0:x<0):S x=⟨(45::Lib.decDigits n).toArray⟩:=by
 unfold S Lib.itoa;rw[if_pos h0,h]
theorem cat_hyphen (l:List UInt8):(⟨#[45]⟩:ByteArray)++⟨l.toArray⟩=⟨(45::l).toArray⟩:=by
 apply ByteArray.ext;simp[ByteArray.data_append]
theorem sign_nn {x:Int} (h:0≤x):decide (x.sign<0)=false:=by
 rcases Int.lt_or_eq_of_le h with h|h
 · rw[Int.sign_eq_one_of_pos h];rfl
 · subst h;rfl
theorem digs_le0 {l:List Nat} (ol:Ok l) (hl:l.length≤1000):(Lib.decDigits (val l)).length≤9000:=by
 by_cases hne:l=[]
 · subst hne;rw[val_nil,decDigits_small (by omega)];simp
 · have:=digs_le ol hne 0
   rw[List.drop_zero]at this;omega
theorem isBelow_any (s:Int) (b:Bool) (hb:decide (s<0)=b) (w:World):Calls Tryz.prog 245 #[.int .i64 s] w fun e w'=>e=.returned (.bool b)∧w=w':=by
 subst hb
 by_cases h:s<0
 · go_enter Tryz.func245,Tryz.ntmps245
   go_wp2_with fail
   go_ret
   exact⟨by simp[h],rfl⟩
 · go_enter Tryz.func245,Tryz.ntmps245
   go_wp2_with fail
   go_ret
   exact⟨by simp[h],rfl⟩
theorem isZero_any (s:Int) (b:Bool) (hb:(s==0)=b) (w:World):Calls Tryz.prog 229 #[.int .i64 s] w fun e w'=>e=.returned (.bool b)∧w=w':=by
 go_enter Tryz.func229,Tryz.ntmps229
 go_wp2_with fail
 go_ret
 exact⟨rfl,rfl⟩
theorem text_any (x:Int) (A:Option Addr) (l:List Nat) (c:Nat) (w:World) (hA:Sz w A l) (ol:Ok l) (nl:Norm l) (hv:val l=x.natAbs) (hl:l.length≤1000) (htab:Tab w):
 Calls Tryz.prog 220 #[.agg #[.int .i64 x.sign,.slice A l.length c]] w fun e w'=>e=.returned (.string (S x))∧Below w.heap.size w w':=by
 have hf:=fun(w1:World) (h1:Below w.heap.size w w1)=>figures_any A l c w1 (hA.below h1) ol nl hl (htab.below h1)
 have HF:=Lib.hid hf
 clear hf
 by_cases h0:x<0
 · have hs:x.sign= -1:=Int.sign_eq_neg_one_of_neg h0
   rw[hs]
   have HS:=Lib.hid (S_neg rfl h0)
   have hdl:=digs_le0 ol hl
   rw[hv]at HF hdl
   clear hs hv
   go_enter Tryz.func220,Tryz.ntmps220
   go_wp2_with fail
   refine(isBelow_any _ true rfl _).mono ?_
   rintro e w1 ⟨rfl,rfl⟩
   go_wp2_with fail
   refine(HF.out _ ((Below.refl _ _).alloc (Nat.le_refl _) _)).mono ?_
   rintro e w1 ⟨rfl,hb⟩
   go_wp2_with fail
   go_ret
   exact⟨ret_str (by rw[HS.out,←cat_hyphen];rfl),((Below.refl _ _).alloc (Nat.le_refl _) _).trans (hb.mono (by simp))⟩
 · have hs:=sign_nn (x:=x) (by omega)
   have HS:=Lib.hid (S_pos rfl (by omega:0≤x))
   rw[hv]at HF
   have HB:=Lib.hid (isBelow_any _ _ hs)
   clear hs hv
   go_enter Tryz.func220,Tryz.ntmps220
   go_wp2_with fail
   refine(HB.out _).mono ?_
   rintro e w1 ⟨rfl,rfl⟩
   go_wp2_with fail
   refine(HF.out _ ((Below.refl _ _).alloc (Nat.le_refl _) _)).mono ?_
   rintro e w1 ⟨rfl,hb⟩
   go_wp2_with fail
   go_ret
   exact⟨ret_str HS.out.symm,((Below.refl _ _).alloc (Nat.le_refl _) _).trans (hb.mono (by simp))⟩
end Go.Proofs.YtcfbjdplhgdpfaaGreatDoor
namespace Go.Proofs.YtcfbjdplhgdpfaaGreatDoor
set_option linter.unusedVariables false
set_option linter.unusedSimpArgs false
open Go.RowKit
def lim:Nat:=10^100
theorem lim_pos:0<lim:=by unfold lim;exact Nat.pow_pos (by decide)
theorem digs_lim (n:Nat):(Lib.decDigits n).length≤100↔n<lim:=by unfold lim;exact decDigits_len_le (by decide)
def told (x:Int):Value:=if x.natAbs<lim then .tuple #[.string (S x),.int .i64 0]else .tuple #[.string ⟨#[]⟩,.int .i64 8]
theorem told_yes {x:Int} (h:x.natAbs<lim):told x=.tuple #[.string (S x),.int .i64 0]:=by unfold told;rw[if_pos h]
theorem told_no {x:Int} (h:¬x.natAbs<lim):told x=.tuple #[.string ⟨#[]⟩,.int .i64 8]:=by unfold told;rw[if_neg h]
theorem told_any (x:Int) (A:Option Addr) (l:List Nat) (c:Nat) (w:World) (hA:Sz w A l) (ol:Ok l) (nl:Norm l) (hv:val l=x.natAbs) (hl:l.length≤1000) (htab:Tab w):
 Calls Tryz.prog 224 #[.agg #[.int .i64 x.sign,.slice A l.length c]] w fun e w'=>e=.returned (told x)∧Below w.heap.size w w':=by
 have hf:=fun(w1:World) (h1:Below w.heap.size w w1)=>figures_any A l c w1 (hA.below h1) ol nl hl (htab.below h1)
 have ht:=fun(w1:World) (h1:Below w.heap.size w w1)=>text_any x A l c w1 (hA.below h1) ol nl hv hl (htab.below h1)
 rw[hv]at hf
 obtain⟨t,hts⟩:∃t:ByteArray,t=⟨(Lib.decDigits x.natAbs).toArray⟩:=⟨_,rfl⟩
 have hsz:t.size=(Lib.decDigits x.natAbs).length:=by rw[hts];simp[ByteArray.size]
 rw[←hts]at hf
 obtain⟨sg,hsg⟩:∃sg,sg=x.sign:=⟨_,rfl⟩
 rw[←hsg]at ht ⊢
 have HF:=Lib.hid hf
 have HT:=Lib.hid ht
 by_cases hlim:x.natAbs<lim
 · have h1:t.size≤100:=by rw[hsz];exact(digs_lim _).2 hlim
   have HE:=Lib.hid (told_yes hlim)
   clear hf ht hts hsz hv hsg hlim
   go_enter Tryz.func224,Tryz.ntmps224
   go_wp2_with fail
   refine(HF.out _ ((Below.refl _ _).alloc (Nat.le_refl _) _)).mono ?_
   rintro e w1 ⟨rfl,hb⟩
   have hb1:Below w.heap.size w w1:=((Below.refl _ _).alloc (Nat.le_refl _) _).trans (hb.mono (by simp))
   have hc0:=hb.cell (p:=⟨w.heap.size,0,none⟩) (by simp)
   have hc1:=hb.cell (p:=⟨w.heap.size,1,none⟩) (by simp)
   clear hb
   go_wp2_with fail
   refine(HT.out _ hb1).mono ?_
   rintro e w2 ⟨rfl,hb2⟩
   go_wp2_with fail
   go_ret2
   exact⟨by rw[HE.out];rfl,hb1.trans (hb2.mono hb1.size)⟩
 · have h1:¬t.size≤100:=by rw[hsz];exact fun h=>hlim ((digs_lim _).1 h)
   have HE:=Lib.hid (told_no hlim)
   clear hf ht hts hsz hv hsg hlim
   go_enter Tryz.func224,Tryz.ntmps224
   go_wp2_with fail
   refine(HF.out _ ((Below.refl _ _).alloc (Nat.le_refl _) _)).mono ?_
   rintro e w1 ⟨rfl,hb⟩
   have hb1:Below w.heap.size w w1:=((Below.refl _ _).alloc (Nat.le_refl _) _).trans (hb.mono (by simp))
   clear hb
   go_wp2_with fail
   go_ret2
   exact⟨by rw[HE.out];rfl,hb1⟩
theorem sign_neg_ (x:Int):(-x).sign= -x.sign:=Int.sign_neg x
theorem negated_any (x:Int) (A:Option Addr) (l:List Nat) (c:Nat) (w:World) (hA:Sz w A l) (ol:Ok l) (nl:Norm l) (hv:val l=x.natAbs):
 Calls Tryz.prog 219 #[.agg #[.int .i64 x.sign,.slice A l.length c]] w (MadePost (-x) w):=by
 have h1: -1≤x.sign∧x.sign≤1:=by
  rcases Int.lt_trichotomy x 0 with h|h|h
  · rw[Int.sign_eq_neg_one_of_neg h];omega
  · subst h;simp
  · rw[Int.sign_eq_one_of_pos h];omega
 have h2:=sign_neg_ x
 obtain⟨sg,hsg⟩:∃sg,sg=x.sign:=⟨_,rfl⟩
 rw[←hsg]at h1 h2 ⊢
 have H2:=Lib.hid h2
 clear h2 hsg
 go_enter Tryz.func219,Tryz.ntmps219
 go_wp2_with fail
 have hb:Below w.heap.size w ((w.alloc (.cells #[.int .i64 sg,.slice A l.length c] 200)).alloc (.cells #[.int .i64 (-sg),.slice A l.length c] 200)):=((Below.refl _ _).alloc (Nat.le_refl _) _).alloc (by simp) _
 exact bodyPost_ret (v:=.agg #[.int .i64 (-sg),.slice A l.length c]) (by simp[results,Tryz.results219,go_sem]) rfl ⟨_,rfl,⟨A,l,c,by rw[H2.out],hA.below hb,ol,nl,by rw[hv];omega⟩,hb⟩
theorem cmp_signs (x y:Int) (h:cmpI x.sign y.sign≠0):cmpI x.sign y.sign=cmpI x y:=by
 unfold cmpI at*
 rcases Int.lt_trichotomy x 0 with hx|hx|hx<;>rcases Int.lt_trichotomy y 0 with hy|hy|hy
 all_goals first
  |rw[Int.sign_eq_neg_one_of_neg hx]at*
  |rw[Int.sign_eq_one_of_pos hx]at*
  |(rw[hx]at*;rw[Int.sign_zero]at*)
 all_goals first
  |rw[Int.sign_eq_neg_one_of_neg hy]at*
  |rw[Int.sign_eq_one_of_pos hy]at*
  |(rw[hy]at*;rw[Int.sign_zero]at*)
 all_goals first
  |(exfalso;exact h (by decide))
  |(rw[if_pos (by decide),if_pos (by omega)])
  |(rw[if_neg (by decide),if_pos (by decide),if_neg (by omega),if_pos (by omega)])
end Go.Proofs.YtcfbjdplhgdpfaaGreatDoor

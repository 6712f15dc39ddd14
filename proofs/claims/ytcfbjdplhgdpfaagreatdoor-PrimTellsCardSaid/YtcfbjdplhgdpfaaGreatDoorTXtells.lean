/- PrimTells (reredoslaw16) holds at every input: the call returns true, and each argument reads as it did; the row and its card. No conditions beside the row's own. -/
import Derived.Test.YtcfbjdplhgdpfaaGreatDoorTca
import Derived.Test.YtcfbjdplhgdpfaaGreatDoorCards
import Derived.Test.YtcfbjdplhgdpfaaGreatDoorTie
set_option maxRecDepth 100000
namespace Go.Proofs.YtcfbjdplhgdpfaaGreatDoor
set_option linter.unusedVariables false
set_option linter.unusedSimpArgs false
open Go.ChangeShapes Go.WideShapes Go.ChangeAt Go.RowKit
open Go.ChangeMaps (open_string shut_string)
theorem primTells_lifted (os:Os) (started:os.Started) (H:Type) (enc:TypeId×Value→H):
 ReturnsInHanded {} Tryz.checked os 3 .any (fun w args=>(Rows.primTellsSpec.pre enc Tryz.prog Tryz.f3 [] false w args∧laidMetH Tryz.prog yHk w)∧sizedMet enc Tryz.prog Tryz.f3 (OpenSpec.ofChange Rows.primTellsSpec) false w args)
  (Rows.primTellsSpec.post enc Tryz.prog Tryz.f3 false true false false):=by
 refine returnsInHanded_of_change_and (C:=Tryz.checked) (X:=fun w _=>laidMetH Tryz.prog yHk w) (fun _ _ _ hh h=>h.of_heap hh) own started zYn Tryz.func3
  (ChangeSpec.witness_shaped (enc:=enc) (C:=Tryz.checked) (os:=os) (X:=fun w _=>laidMetH Tryz.prog yHk w) false (World.doorLaid Tryz.prog 400 os) #[.string ⟨#[]⟩,.agg #[.slice none 0 0,.slice none 0 0],.agg #[.slice none 0 0,.slice none 0 0]] 8 rfl (World.shaped_of_RefB zYn zYn) zYn zYn zYn (yKk os _)) ?_
 intro W base args ds gs before hval0 hW _ _ hL _;have hval:∀(j:Nat) t v,Tryz.f3.params[j]?=some t→args[j]?=some v→Value.okWide Tryz.prog W .any base t v:=hval0;have hW':=hW;obtain⟨p,q,hA0,hV,rfl,hfz,hnd⟩:=hW;have hA:DataW.TrodAll enc Tryz.prog W 0 (fun _=>true) true Tryz.f3.params.toList args.toList ds p:=hA0;rw[Tryz.params3]at hA hval;obtain⟨v0,v1,v2,d0,d1,d2,p0,p1,p2,rfl,rfl,rfl,h0,h1,h2⟩:=trodAll_three hA;obtain⟨rfl,rfl⟩:=trodVars_none hV;obtain⟨x0,rfl,rfl,rfl,w0⟩:=open_string Tryz.underlying9 (hval 0 9 v0 rfl rfl) h0;obtain⟨a1,n1,c1,b1,m1,d'1,l1,es1,rfl,V1,C1,Z1⟩:=ySc (hval 1 25 v1 rfl rfl) h1;have hlt1:∀x∈p1,x.block<W.heap.size:=fun x hx=>by simpa using hW'.lt x (by simp[hx])
 obtain⟨a2,n2,c2,b2,m2,d'2,l2,es2,rfl,V2,C2,Z2⟩:=ySc (hval 2 25 v2 rfl rfl) h2;have hlt2:∀x∈p2,x.block<W.heap.size:=fun x hx=>by simpa using hW'.lt x (by simp[hx])
 clear hA0 hval0;refine(yEc W ⟨yJk hL,yIk hL⟩ w0 V1 C1 Z1 V2 C2 Z2).mono fun e W' ⟨he,bel⟩=> ?_;subst he;refine⟨_,rfl,_,_,_,[],[]++(p1++(p2)),[],hW',?_,?_,rfl,bel.frame _,fun h=>by cases h⟩
 · exact trodAll_mk1 (shut_bool Tryz.underlying4 _)
 · exact trodAll_mk3 (shut_string Tryz.underlying9 w0) (Below.trod yMc zYn (zK1 zYn) h1 bel hlt1) (Below.trod yMc zYn (zK1 zYn) h2 bel hlt2)
theorem primTells_said:Rows.PrimTellsSaid:=
 OpenClaim.holds_of_wide 3 Tryz.f3 rfl rfl rfl rfl rfl rfl rfl ⟨rfl,rfl,rfl,rfl,rfl⟩ rfl rfl rfl rfl rfl zYn Tryz.func3 zYn
  (zK1 zYn) (by unfold Func.isWrapper;rw[zY (by decide+kernel)];exact⟨rfl,rfl⟩)
  (fun os started H enc _=>primTells_lifted os started H enc)
theorem primTells_holds:Rows.PrimTellsCardSaid:=
 Claim7.holds_tied_plain_at .later [] [.data,.data,.data,.sentinel,.sentinel,.data,.data] true (true,"b89a1599f119b1d4ce4a08eb8553d0ab55fd1bb8ef8ecbfa8ec42288c8d71c0a") true
  primTells_said (fun _ h=>by cases h) zYn (fun _ h=>by cases h) primTells_row_tie rfl ⟨rfl,rfl⟩ zYn rfl
  (fun f fn hf hfn=>by
    obtain rfl:f=3:=zX1 ((show Tryz.prog.funcNamed "reredos/reredoslaw16.PrimTells" =some 3 by kernel_rfl).symm.trans hf) |>.symm
    obtain rfl:fn=Tryz.f3:=(zX1 (Tryz.func3.symm.trans hfn)).symm;exact⟨by kernel_rfl,fun j t ht=>by
     rw[Tryz.params3]at ht;have hm:t∈[9,25,25]:=by simpa using Array.mem_of_getElem? ht
     have hall:([9,25,25].all fun u=> !Tryz.prog.wantsStandIn u)=true:=by kernel_rfl
     exact(show Tryz.prog.wantsStandIn t=false by simpa using zE1.1 hall t hm)⟩)
  zYn
end Go.Proofs.YtcfbjdplhgdpfaaGreatDoor

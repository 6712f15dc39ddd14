/-
  DERIVED. GIVEN WITH THE SEED: THE CARDS: each row of YtinhbmjfeabecaaGreatDoorRows.lean that lists a variable, with what it lists TIED to the program's text (the seventh form; the later family's looks); each row that meets fmt, with fmt's text TOLD by the authors' own Lean function (tested against real Go, not proved from fmt's source: count such statements apart). THE CARD IS WHAT COUNTS. Prove the row's statement (the work); the ties are given (YtinhbmjfeabecaaGreatDoorTie.lean); close each card by the builder's one call (the guide's Derived/Test/ToyasCard.lean, 'card_holds'). Laid BY PROGRAM, IN A SANDBOX (cutbox-door.mjs). By AI agents, Wed Nov 11 2026. No macro, syntax, notation, axiom, sorry.
-/
import Derived.Test.YtinhbmjfeabecaaGreatDoorRows
import GoSem.ClaimSeven
namespace Go.Proofs.YtinhbmjfeabecaaGreatDoor
namespace Rows

/-- THE TIED CARD OF 'reredoslaw01.NumTells'. -/
def numTellsCard : Claim7 := { stood := { row := numTellsRow, standIns := [], harness := (true, "ee3a9e366277d3b300a0d0fff4a7a86ecbc874edeea274660c3e70c3089a2c18"), looks := true }, kinds := [], alts := [], laidByText := true, laidKinds := [.data, .data, .data, .sentinel, .sentinel], laidTests := true, laidLooks := .later }
def NumTellsCardSaid : Prop := Claim7.holds Tryz.pinned (.plain (OpenSpec.ofChange numTellsSpec)) numTellsCard

/-- THE SECOND FORM's CARD OF 'reredoslaw01.NumTells'. -/
def numTellsUptoCard : Claim7 := { stood := { row := numTellsUptoRow, standIns := [], harness := (true, "ee3a9e366277d3b300a0d0fff4a7a86ecbc874edeea274660c3e70c3089a2c18"), looks := true }, kinds := [], alts := [], laidByText := true, laidKinds := [.data, .data, .data, .sentinel, .sentinel], laidTests := true, laidLooks := .later }
def NumTellsUptoCardSaid : Prop := Claim7.holds Tryz.pinned (.plain (OpenSpec.upto numTellsSpec)) numTellsUptoCard
end Rows
end Go.Proofs.YtinhbmjfeabecaaGreatDoor

/-
  DERIVED. GIVEN WITH THE SEED: THE CARDS: each row of YtcfbjdplhgdpfaaGreatDoorRows.lean that lists a variable, with what it lists TIED to the program's text (the seventh form; the later family's looks); each row that meets fmt, with fmt's text TOLD by the authors' own Lean function (tested against real Go, not proved from fmt's source: count such statements apart). THE CARD IS WHAT COUNTS. Prove the row's statement (the work); the ties are given (YtcfbjdplhgdpfaaGreatDoorTie.lean); close each card by the builder's one call (the guide's Derived/Test/ToyasCard.lean, 'card_holds'). Laid BY PROGRAM, IN A SANDBOX (cutbox-door.mjs). By AI agents, Wed Nov 11 2026. No macro, syntax, notation, axiom, sorry.
-/
import Derived.Test.YtcfbjdplhgdpfaaGreatDoorRows
import GoSem.ClaimSeven
namespace Go.Proofs.YtcfbjdplhgdpfaaGreatDoor
namespace Rows

/-- THE TIED CARD OF 'reredoslaw16.PrimTells'. -/
def primTellsCard : Claim7 := { stood := { row := primTellsRow, standIns := [], harness := (true, "b89a1599f119b1d4ce4a08eb8553d0ab55fd1bb8ef8ecbfa8ec42288c8d71c0a"), looks := true }, kinds := [], alts := [], laidByText := true, laidKinds := [.data, .data, .data, .sentinel, .sentinel, .data, .data], laidTests := true, laidLooks := .later }
def PrimTellsCardSaid : Prop := Claim7.holds Tryz.pinned (.plain (OpenSpec.ofChange primTellsSpec)) primTellsCard

/-- THE TIED CARD OF 'reredoslaw16.PrimMay'. -/
def primMayCard : Claim7 := { stood := { row := primMayRow, standIns := [], harness := (true, "b89a1599f119b1d4ce4a08eb8553d0ab55fd1bb8ef8ecbfa8ec42288c8d71c0a"), looks := true }, kinds := [], alts := [], laidByText := true, laidKinds := [.data, .data, .data, .sentinel, .sentinel, .data, .data], laidTests := true, laidLooks := .later }
def PrimMayCardSaid : Prop := Claim7.holds Tryz.pinned (.plain (OpenSpec.ofChange primMaySpec)) primMayCard

/-- THE TIED CARD OF 'reredoslaw16.PrimUnit'. -/
def primUnitCard : Claim7 := { stood := { row := primUnitRow, standIns := [], harness := (true, "b89a1599f119b1d4ce4a08eb8553d0ab55fd1bb8ef8ecbfa8ec42288c8d71c0a"), looks := true }, kinds := [], alts := [], laidByText := true, laidKinds := [.data, .data, .data, .sentinel, .sentinel, .data, .data], laidTests := true, laidLooks := .later }
def PrimUnitCardSaid : Prop := Claim7.holds Tryz.pinned (.plain (OpenSpec.ofChange primUnitSpec)) primUnitCard

/-- THE TIED CARD OF 'reredoslaw16.PrimIndex'. -/
def primIndexCard : Claim7 := { stood := { row := primIndexRow, standIns := [], harness := (true, "b89a1599f119b1d4ce4a08eb8553d0ab55fd1bb8ef8ecbfa8ec42288c8d71c0a"), looks := true }, kinds := [], alts := [], laidByText := true, laidKinds := [.data, .data, .data, .sentinel, .sentinel, .data, .data], laidTests := true, laidLooks := .later }
def PrimIndexCardSaid : Prop := Claim7.holds Tryz.pinned (.plain (OpenSpec.ofChange primIndexSpec)) primIndexCard

/-- THE SECOND FORM's CARD OF 'reredoslaw16.PrimTells'. -/
def primTellsUptoCard : Claim7 := { stood := { row := primTellsUptoRow, standIns := [], harness := (true, "b89a1599f119b1d4ce4a08eb8553d0ab55fd1bb8ef8ecbfa8ec42288c8d71c0a"), looks := true }, kinds := [], alts := [], laidByText := true, laidKinds := [.data, .data, .data, .sentinel, .sentinel, .data, .data], laidTests := true, laidLooks := .later }
def PrimTellsUptoCardSaid : Prop := Claim7.holds Tryz.pinned (.plain (OpenSpec.upto primTellsSpec)) primTellsUptoCard

/-- THE SECOND FORM's CARD OF 'reredoslaw16.PrimMay'. -/
def primMayUptoCard : Claim7 := { stood := { row := primMayUptoRow, standIns := [], harness := (true, "b89a1599f119b1d4ce4a08eb8553d0ab55fd1bb8ef8ecbfa8ec42288c8d71c0a"), looks := true }, kinds := [], alts := [], laidByText := true, laidKinds := [.data, .data, .data, .sentinel, .sentinel, .data, .data], laidTests := true, laidLooks := .later }
def PrimMayUptoCardSaid : Prop := Claim7.holds Tryz.pinned (.plain (OpenSpec.upto primMaySpec)) primMayUptoCard

/-- THE SECOND FORM's CARD OF 'reredoslaw16.PrimUnit'. -/
def primUnitUptoCard : Claim7 := { stood := { row := primUnitUptoRow, standIns := [], harness := (true, "b89a1599f119b1d4ce4a08eb8553d0ab55fd1bb8ef8ecbfa8ec42288c8d71c0a"), looks := true }, kinds := [], alts := [], laidByText := true, laidKinds := [.data, .data, .data, .sentinel, .sentinel, .data, .data], laidTests := true, laidLooks := .later }
def PrimUnitUptoCardSaid : Prop := Claim7.holds Tryz.pinned (.plain (OpenSpec.upto primUnitSpec)) primUnitUptoCard

/-- THE SECOND FORM's CARD OF 'reredoslaw16.PrimIndex'. -/
def primIndexUptoCard : Claim7 := { stood := { row := primIndexUptoRow, standIns := [], harness := (true, "b89a1599f119b1d4ce4a08eb8553d0ab55fd1bb8ef8ecbfa8ec42288c8d71c0a"), looks := true }, kinds := [], alts := [], laidByText := true, laidKinds := [.data, .data, .data, .sentinel, .sentinel, .data, .data], laidTests := true, laidLooks := .later }
def PrimIndexUptoCardSaid : Prop := Claim7.holds Tryz.pinned (.plain (OpenSpec.upto primIndexSpec)) primIndexUptoCard
end Rows
end Go.Proofs.YtcfbjdplhgdpfaaGreatDoor

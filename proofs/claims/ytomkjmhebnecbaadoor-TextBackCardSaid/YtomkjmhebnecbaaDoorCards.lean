/-
  DERIVED. GIVEN WITH THE SEED: THE CARDS: each row of YtomkjmhebnecbaaDoorRows.lean that lists a variable, with what it lists TIED to the program's text (the seventh form; the later family's looks); each row that meets fmt, with fmt's text TOLD by the authors' own Lean function (tested against real Go, not proved from fmt's source: count such statements apart). THE CARD IS WHAT COUNTS. Prove the row's statement (the work); the ties are given (YtomkjmhebnecbaaDoorTie.lean); close each card by the builder's one call (the guide's Derived/Test/ToyasCard.lean, 'card_holds'). Laid BY PROGRAM, IN A SANDBOX (cutbox-door.mjs). By AI agents, Wed Nov 11 2026. No macro, syntax, notation, axiom, sorry.
-/
import Derived.Test.YtomkjmhebnecbaaDoorRows
import GoSem.ClaimSeven
namespace Go.Proofs.YtomkjmhebnecbaaDoor
namespace Rows

/-- THE TIED CARD OF 'reredoslaw11.TextBack'. -/
def textBackCard : Claim7 := { stood := { row := textBackRow, standIns := [], harness := (true, "13df3494208df635ebc29aee16f980929e263e7ea0cf1040c8cfcf1ebc1394be"), looks := true }, kinds := [], alts := [], laidByText := true, laidKinds := [.data, .data, .data, .data, .sentinel, .sentinel, .pinned], laidTests := true, laidLooks := .later }
def TextBackCardSaid : Prop := Claim7.holds Tryd.pinned (.plain (OpenSpec.ofChange textBackSpec)) textBackCard

/-- THE TIED CARD OF 'reredoslaw11.TextVery'. -/
def textVeryCard : Claim7 := { stood := { row := textVeryRow, standIns := [], harness := (true, "13df3494208df635ebc29aee16f980929e263e7ea0cf1040c8cfcf1ebc1394be"), looks := true }, kinds := [], alts := [], laidByText := true, laidKinds := [.data, .data, .data, .data, .sentinel, .sentinel, .pinned], laidTests := true, laidLooks := .later }
def TextVeryCardSaid : Prop := Claim7.holds Tryd.pinned (.plain (OpenSpec.ofChange textVerySpec)) textVeryCard

/-- THE TIED CARD OF 'reredoslaw11.TextOnes'. -/
def textOnesCard : Claim7 := { stood := { row := textOnesRow, standIns := [], harness := (true, "13df3494208df635ebc29aee16f980929e263e7ea0cf1040c8cfcf1ebc1394be"), looks := true }, kinds := [], alts := [], laidByText := true, laidKinds := [.data, .data, .data, .data, .sentinel, .sentinel, .pinned], laidTests := true, laidLooks := .later }
def TextOnesCardSaid : Prop := Claim7.holds Tryd.pinned (.plain (OpenSpec.ofChange textOnesSpec)) textOnesCard

/-- THE SECOND FORM's CARD OF 'reredoslaw11.TextBack'. -/
def textBackUptoCard : Claim7 := { stood := { row := textBackUptoRow, standIns := [], harness := (true, "13df3494208df635ebc29aee16f980929e263e7ea0cf1040c8cfcf1ebc1394be"), looks := true }, kinds := [], alts := [], laidByText := true, laidKinds := [.data, .data, .data, .data, .sentinel, .sentinel, .pinned], laidTests := true, laidLooks := .later }
def TextBackUptoCardSaid : Prop := Claim7.holds Tryd.pinned (.plain (OpenSpec.upto textBackSpec)) textBackUptoCard

/-- THE SECOND FORM's CARD OF 'reredoslaw11.TextVery'. -/
def textVeryUptoCard : Claim7 := { stood := { row := textVeryUptoRow, standIns := [], harness := (true, "13df3494208df635ebc29aee16f980929e263e7ea0cf1040c8cfcf1ebc1394be"), looks := true }, kinds := [], alts := [], laidByText := true, laidKinds := [.data, .data, .data, .data, .sentinel, .sentinel, .pinned], laidTests := true, laidLooks := .later }
def TextVeryUptoCardSaid : Prop := Claim7.holds Tryd.pinned (.plain (OpenSpec.upto textVerySpec)) textVeryUptoCard

/-- THE SECOND FORM's CARD OF 'reredoslaw11.TextOnes'. -/
def textOnesUptoCard : Claim7 := { stood := { row := textOnesUptoRow, standIns := [], harness := (true, "13df3494208df635ebc29aee16f980929e263e7ea0cf1040c8cfcf1ebc1394be"), looks := true }, kinds := [], alts := [], laidByText := true, laidKinds := [.data, .data, .data, .data, .sentinel, .sentinel, .pinned], laidTests := true, laidLooks := .later }
def TextOnesUptoCardSaid : Prop := Claim7.holds Tryd.pinned (.plain (OpenSpec.upto textOnesSpec)) textOnesUptoCard
end Rows
end Go.Proofs.YtomkjmhebnecbaaDoor

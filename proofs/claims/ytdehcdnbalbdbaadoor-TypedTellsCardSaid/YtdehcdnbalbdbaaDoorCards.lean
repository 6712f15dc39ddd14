/-
  DERIVED. GIVEN WITH THE SEED: THE CARDS: each row of YtdehcdnbalbdbaaDoorRows.lean that lists a variable, with what it lists TIED to the program's text (the seventh form; the later family's looks); each row that meets fmt, with fmt's text TOLD by the authors' own Lean function (tested against real Go, not proved from fmt's source: count such statements apart). THE CARD IS WHAT COUNTS. Prove the row's statement (the work); the ties are given (YtdehcdnbalbdbaaDoorTie.lean); close each card by the builder's one call (the guide's Derived/Test/ToyasCard.lean, 'card_holds'). Laid BY PROGRAM, IN A SANDBOX (cutbox-door.mjs). By AI agents, Wed Nov 11 2026. No macro, syntax, notation, axiom, sorry.
-/
import Derived.Test.YtdehcdnbalbdbaaDoorRows
import GoSem.ClaimSeven
namespace Go.Proofs.YtdehcdnbalbdbaaDoor
namespace Rows

/-- THE TIED CARD OF 'reredoslaw05.TypedPacks'. -/
def typedPacksCard : Claim7 := { stood := { row := typedPacksRow, standIns := [], harness := (true, "413df0e84ec1b107a0ecff1e34b2e3005766b1a44165a9339d398a122079f2b9"), looks := true }, kinds := [], alts := [], laidByText := true, laidKinds := [.data, .data, .data, .sentinel, .sentinel, .data], laidTests := true, laidLooks := .later }
def TypedPacksCardSaid : Prop := Claim7.holds Tryd.pinned (.plain (OpenSpec.ofChange typedPacksSpec)) typedPacksCard

/-- THE TIED CARD OF 'reredoslaw05.TypedTells'. -/
def typedTellsCard : Claim7 := { stood := { row := typedTellsRow, standIns := [], harness := (true, "413df0e84ec1b107a0ecff1e34b2e3005766b1a44165a9339d398a122079f2b9"), looks := true }, kinds := [], alts := [], laidByText := true, laidKinds := [.data, .data, .data, .sentinel, .sentinel, .data], laidTests := true, laidLooks := .later }
def TypedTellsCardSaid : Prop := Claim7.holds Tryd.pinned (.plain (OpenSpec.ofChange typedTellsSpec)) typedTellsCard

/-- THE TIED CARD OF 'reredoslaw05.TypedBack'. -/
def typedBackCard : Claim7 := { stood := { row := typedBackRow, standIns := [], harness := (true, "413df0e84ec1b107a0ecff1e34b2e3005766b1a44165a9339d398a122079f2b9"), looks := true }, kinds := [], alts := [], laidByText := true, laidKinds := [.data, .data, .data, .sentinel, .sentinel, .data], laidTests := true, laidLooks := .later }
def TypedBackCardSaid : Prop := Claim7.holds Tryd.pinned (.plain (OpenSpec.ofChange typedBackSpec)) typedBackCard

/-- THE TIED CARD OF 'reredoslaw05.TypedNarrow'. -/
def typedNarrowCard : Claim7 := { stood := { row := typedNarrowRow, standIns := [], harness := (true, "413df0e84ec1b107a0ecff1e34b2e3005766b1a44165a9339d398a122079f2b9"), looks := true }, kinds := [], alts := [], laidByText := true, laidKinds := [.data, .data, .data, .sentinel, .sentinel, .data], laidTests := true, laidLooks := .later }
def TypedNarrowCardSaid : Prop := Claim7.holds Tryd.pinned (.plain (OpenSpec.ofChange typedNarrowSpec)) typedNarrowCard

/-- THE TIED CARD OF 'reredoslaw05.TypedBytes'. -/
def typedBytesCard : Claim7 := { stood := { row := typedBytesRow, standIns := [], harness := (true, "413df0e84ec1b107a0ecff1e34b2e3005766b1a44165a9339d398a122079f2b9"), looks := true }, kinds := [], alts := [], laidByText := true, laidKinds := [.data, .data, .data, .sentinel, .sentinel, .data], laidTests := true, laidLooks := .later }
def TypedBytesCardSaid : Prop := Claim7.holds Tryd.pinned (.plain (OpenSpec.ofChange typedBytesSpec)) typedBytesCard

/-- THE TIED CARD OF 'reredoslaw05.TypedElements'. -/
def typedElementsCard : Claim7 := { stood := { row := typedElementsRow, standIns := [], harness := (true, "413df0e84ec1b107a0ecff1e34b2e3005766b1a44165a9339d398a122079f2b9"), looks := true }, kinds := [], alts := [], laidByText := true, laidKinds := [.data, .data, .data, .sentinel, .sentinel, .data], laidTests := true, laidLooks := .later }
def TypedElementsCardSaid : Prop := Claim7.holds Tryd.pinned (.plain (OpenSpec.ofChange typedElementsSpec)) typedElementsCard

/-- THE SECOND FORM's CARD OF 'reredoslaw05.TypedPacks'. -/
def typedPacksUptoCard : Claim7 := { stood := { row := typedPacksUptoRow, standIns := [], harness := (true, "413df0e84ec1b107a0ecff1e34b2e3005766b1a44165a9339d398a122079f2b9"), looks := true }, kinds := [], alts := [], laidByText := true, laidKinds := [.data, .data, .data, .sentinel, .sentinel, .data], laidTests := true, laidLooks := .later }
def TypedPacksUptoCardSaid : Prop := Claim7.holds Tryd.pinned (.plain (OpenSpec.upto typedPacksSpec)) typedPacksUptoCard

/-- THE SECOND FORM's CARD OF 'reredoslaw05.TypedTells'. -/
def typedTellsUptoCard : Claim7 := { stood := { row := typedTellsUptoRow, standIns := [], harness := (true, "413df0e84ec1b107a0ecff1e34b2e3005766b1a44165a9339d398a122079f2b9"), looks := true }, kinds := [], alts := [], laidByText := true, laidKinds := [.data, .data, .data, .sentinel, .sentinel, .data], laidTests := true, laidLooks := .later }
def TypedTellsUptoCardSaid : Prop := Claim7.holds Tryd.pinned (.plain (OpenSpec.upto typedTellsSpec)) typedTellsUptoCard

/-- THE SECOND FORM's CARD OF 'reredoslaw05.TypedBack'. -/
def typedBackUptoCard : Claim7 := { stood := { row := typedBackUptoRow, standIns := [], harness := (true, "413df0e84ec1b107a0ecff1e34b2e3005766b1a44165a9339d398a122079f2b9"), looks := true }, kinds := [], alts := [], laidByText := true, laidKinds := [.data, .data, .data, .sentinel, .sentinel, .data], laidTests := true, laidLooks := .later }
def TypedBackUptoCardSaid : Prop := Claim7.holds Tryd.pinned (.plain (OpenSpec.upto typedBackSpec)) typedBackUptoCard

/-- THE SECOND FORM's CARD OF 'reredoslaw05.TypedNarrow'. -/
def typedNarrowUptoCard : Claim7 := { stood := { row := typedNarrowUptoRow, standIns := [], harness := (true, "413df0e84ec1b107a0ecff1e34b2e3005766b1a44165a9339d398a122079f2b9"), looks := true }, kinds := [], alts := [], laidByText := true, laidKinds := [.data, .data, .data, .sentinel, .sentinel, .data], laidTests := true, laidLooks := .later }
def TypedNarrowUptoCardSaid : Prop := Claim7.holds Tryd.pinned (.plain (OpenSpec.upto typedNarrowSpec)) typedNarrowUptoCard

/-- THE SECOND FORM's CARD OF 'reredoslaw05.TypedBytes'. -/
def typedBytesUptoCard : Claim7 := { stood := { row := typedBytesUptoRow, standIns := [], harness := (true, "413df0e84ec1b107a0ecff1e34b2e3005766b1a44165a9339d398a122079f2b9"), looks := true }, kinds := [], alts := [], laidByText := true, laidKinds := [.data, .data, .data, .sentinel, .sentinel, .data], laidTests := true, laidLooks := .later }
def TypedBytesUptoCardSaid : Prop := Claim7.holds Tryd.pinned (.plain (OpenSpec.upto typedBytesSpec)) typedBytesUptoCard

/-- THE SECOND FORM's CARD OF 'reredoslaw05.TypedElements'. -/
def typedElementsUptoCard : Claim7 := { stood := { row := typedElementsUptoRow, standIns := [], harness := (true, "413df0e84ec1b107a0ecff1e34b2e3005766b1a44165a9339d398a122079f2b9"), looks := true }, kinds := [], alts := [], laidByText := true, laidKinds := [.data, .data, .data, .sentinel, .sentinel, .data], laidTests := true, laidLooks := .later }
def TypedElementsUptoCardSaid : Prop := Claim7.holds Tryd.pinned (.plain (OpenSpec.upto typedElementsSpec)) typedElementsUptoCard
end Rows
end Go.Proofs.YtdehcdnbalbdbaaDoor

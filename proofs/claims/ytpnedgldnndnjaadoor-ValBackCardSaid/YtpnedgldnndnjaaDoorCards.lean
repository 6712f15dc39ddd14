/-
  DERIVED. GIVEN WITH THE SEED: THE CARDS: each row of YtpnedgldnndnjaaDoorRows.lean that lists a variable, with what it lists TIED to the program's text (the seventh form; the later family's looks); each row that meets fmt, with fmt's text TOLD by the authors' own Lean function (tested against real Go, not proved from fmt's source: count such statements apart). THE CARD IS WHAT COUNTS. Prove the row's statement (the work); the ties are given (YtpnedgldnndnjaaDoorTie.lean); close each card by the builder's one call (the guide's Derived/Test/ToyasCard.lean, 'card_holds'). Laid BY PROGRAM, IN A SANDBOX (cutbox-door.mjs). By AI agents, Wed Nov 11 2026. No macro, syntax, notation, axiom, sorry.
-/
import Derived.Test.YtpnedgldnndnjaaDoorRows
import GoSem.ClaimSeven
namespace Go.Proofs.YtpnedgldnndnjaaDoor
namespace Rows

/-- THE TIED CARD OF 'reredoslaw04.ValBack'. -/
def valBackCard : Claim7 := { stood := { row := valBackRow, standIns := [], harness := (true, "d419d4d321bf9e87edfd5eb2d2f8dbd5f597f1dbbb744cd389efb8007beb9afc"), looks := true }, kinds := [], alts := [], laidByText := true, laidKinds := [.data, .data, .data, .sentinel, .sentinel, .data], laidTests := true, laidLooks := .later }
def ValBackCardSaid : Prop := Claim7.holds Tryd.pinned (.plain (OpenSpec.ofChange valBackSpec)) valBackCard

/-- THE TIED CARD OF 'reredoslaw04.ValInts'. -/
def valIntsCard : Claim7 := { stood := { row := valIntsRow, standIns := [], harness := (true, "d419d4d321bf9e87edfd5eb2d2f8dbd5f597f1dbbb744cd389efb8007beb9afc"), looks := true }, kinds := [], alts := [], laidByText := true, laidKinds := [.data, .data, .data, .sentinel, .sentinel, .data], laidTests := true, laidLooks := .later }
def ValIntsCardSaid : Prop := Claim7.holds Tryd.pinned (.plain (OpenSpec.ofChange valIntsSpec)) valIntsCard

/-- THE TIED CARD OF 'reredoslaw04.ValSame'. -/
def valSameCard : Claim7 := { stood := { row := valSameRow, standIns := [], harness := (true, "d419d4d321bf9e87edfd5eb2d2f8dbd5f597f1dbbb744cd389efb8007beb9afc"), looks := true }, kinds := [], alts := [], laidByText := true, laidKinds := [.data, .data, .data, .sentinel, .sentinel, .data], laidTests := true, laidLooks := .later }
def ValSameCardSaid : Prop := Claim7.holds Tryd.pinned (.plain (OpenSpec.ofChange valSameSpec)) valSameCard

/-- THE TIED CARD OF 'reredoslaw04.ValWidth'. -/
def valWidthCard : Claim7 := { stood := { row := valWidthRow, standIns := [], harness := (true, "d419d4d321bf9e87edfd5eb2d2f8dbd5f597f1dbbb744cd389efb8007beb9afc"), looks := true }, kinds := [], alts := [], laidByText := true, laidKinds := [.data, .data, .data, .sentinel, .sentinel, .data], laidTests := true, laidLooks := .later }
def ValWidthCardSaid : Prop := Claim7.holds Tryd.pinned (.plain (OpenSpec.ofChange valWidthSpec)) valWidthCard

/-- THE SECOND FORM's CARD OF 'reredoslaw04.ValBack'. -/
def valBackUptoCard : Claim7 := { stood := { row := valBackUptoRow, standIns := [], harness := (true, "d419d4d321bf9e87edfd5eb2d2f8dbd5f597f1dbbb744cd389efb8007beb9afc"), looks := true }, kinds := [], alts := [], laidByText := true, laidKinds := [.data, .data, .data, .sentinel, .sentinel, .data], laidTests := true, laidLooks := .later }
def ValBackUptoCardSaid : Prop := Claim7.holds Tryd.pinned (.plain (OpenSpec.upto valBackSpec)) valBackUptoCard

/-- THE SECOND FORM's CARD OF 'reredoslaw04.ValInts'. -/
def valIntsUptoCard : Claim7 := { stood := { row := valIntsUptoRow, standIns := [], harness := (true, "d419d4d321bf9e87edfd5eb2d2f8dbd5f597f1dbbb744cd389efb8007beb9afc"), looks := true }, kinds := [], alts := [], laidByText := true, laidKinds := [.data, .data, .data, .sentinel, .sentinel, .data], laidTests := true, laidLooks := .later }
def ValIntsUptoCardSaid : Prop := Claim7.holds Tryd.pinned (.plain (OpenSpec.upto valIntsSpec)) valIntsUptoCard

/-- THE SECOND FORM's CARD OF 'reredoslaw04.ValSame'. -/
def valSameUptoCard : Claim7 := { stood := { row := valSameUptoRow, standIns := [], harness := (true, "d419d4d321bf9e87edfd5eb2d2f8dbd5f597f1dbbb744cd389efb8007beb9afc"), looks := true }, kinds := [], alts := [], laidByText := true, laidKinds := [.data, .data, .data, .sentinel, .sentinel, .data], laidTests := true, laidLooks := .later }
def ValSameUptoCardSaid : Prop := Claim7.holds Tryd.pinned (.plain (OpenSpec.upto valSameSpec)) valSameUptoCard

/-- THE SECOND FORM's CARD OF 'reredoslaw04.ValWidth'. -/
def valWidthUptoCard : Claim7 := { stood := { row := valWidthUptoRow, standIns := [], harness := (true, "d419d4d321bf9e87edfd5eb2d2f8dbd5f597f1dbbb744cd389efb8007beb9afc"), looks := true }, kinds := [], alts := [], laidByText := true, laidKinds := [.data, .data, .data, .sentinel, .sentinel, .data], laidTests := true, laidLooks := .later }
def ValWidthUptoCardSaid : Prop := Claim7.holds Tryd.pinned (.plain (OpenSpec.upto valWidthSpec)) valWidthUptoCard
end Rows
end Go.Proofs.YtpnedgldnndnjaaDoor

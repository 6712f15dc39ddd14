/-
  DERIVED. GIVEN WITH THE SEED: THE CARDS: each row of YtbijncndjlmmdaaGreatDoorRows.lean that lists a variable, with what it lists TIED to the program's text (the seventh form; the later family's looks); each row that meets fmt, with fmt's text TOLD by the authors' own Lean function (tested against real Go, not proved from fmt's source: count such statements apart). THE CARD IS WHAT COUNTS. Prove the row's statement (the work); the ties are given (YtbijncndjlmmdaaGreatDoorTie.lean); close each card by the builder's one call (the guide's Derived/Test/ToyasCard.lean, 'card_holds'). Laid BY PROGRAM, IN A SANDBOX (cutbox-door.mjs). By AI agents, Wed Nov 11 2026. No macro, syntax, notation, axiom, sorry.
-/
import Derived.Test.YtbijncndjlmmdaaGreatDoorRows
import GoSem.ClaimSeven
namespace Go.Proofs.YtbijncndjlmmdaaGreatDoor
namespace Rows

/-- THE TIED CARD OF 'reredoslaw17.AdverbOnes'. -/
def adverbOnesCard : Claim7 := { stood := { row := adverbOnesRow, standIns := [], harness := (true, "110a60aa687c0e696ed32f3700059ebb645da968a0d6b33eba603735e311d5dc"), looks := true }, kinds := [], alts := [], laidByText := true, laidKinds := [.data, .data, .data], laidTests := true, laidLooks := .later }
def AdverbOnesCardSaid : Prop := Claim7.holds Tryz.pinned (.plain (OpenSpec.ofChange adverbOnesSpec)) adverbOnesCard

/-- THE TIED CARD OF 'reredoslaw17.AdverbScan'. -/
def adverbScanCard : Claim7 := { stood := { row := adverbScanRow, standIns := [], harness := (true, "110a60aa687c0e696ed32f3700059ebb645da968a0d6b33eba603735e311d5dc"), looks := true }, kinds := [], alts := [], laidByText := true, laidKinds := [.data, .data, .data], laidTests := true, laidLooks := .later }
def AdverbScanCardSaid : Prop := Claim7.holds Tryz.pinned (.plain (OpenSpec.ofChange adverbScanSpec)) adverbScanCard

/-- THE TIED CARD OF 'reredoslaw17.AdverbSpread'. -/
def adverbSpreadCard : Claim7 := { stood := { row := adverbSpreadRow, standIns := [], harness := (true, "110a60aa687c0e696ed32f3700059ebb645da968a0d6b33eba603735e311d5dc"), looks := true }, kinds := [], alts := [], laidByText := true, laidKinds := [.data, .data, .data, .sentinel, .sentinel, .data, .data], laidTests := true, laidLooks := .later }
def AdverbSpreadCardSaid : Prop := Claim7.holds Tryz.pinned (.plain (OpenSpec.ofChange adverbSpreadSpec)) adverbSpreadCard

/-- THE TIED CARD OF 'reredoslaw17.AdverbBack'. -/
def adverbBackCard : Claim7 := { stood := { row := adverbBackRow, standIns := [], harness := (true, "110a60aa687c0e696ed32f3700059ebb645da968a0d6b33eba603735e311d5dc"), looks := true }, kinds := [], alts := [], laidByText := true, laidKinds := [.data, .data, .data], laidTests := true, laidLooks := .later }
def AdverbBackCardSaid : Prop := Claim7.holds Tryz.pinned (.plain (OpenSpec.ofChange adverbBackSpec)) adverbBackCard

/-- THE TIED CARD OF 'reredoslaw17.AdverbOuter'. -/
def adverbOuterCard : Claim7 := { stood := { row := adverbOuterRow, standIns := [], harness := (true, "110a60aa687c0e696ed32f3700059ebb645da968a0d6b33eba603735e311d5dc"), looks := true }, kinds := [], alts := [], laidByText := true, laidKinds := [.data, .data, .data, .sentinel, .sentinel, .data], laidTests := true, laidLooks := .later }
def AdverbOuterCardSaid : Prop := Claim7.holds Tryz.pinned (.plain (OpenSpec.ofChange adverbOuterSpec)) adverbOuterCard

/-- THE TIED CARD OF 'reredoslaw17.AdverbNobody'. -/
def adverbNobodyCard : Claim7 := { stood := { row := adverbNobodyRow, standIns := [], harness := (true, "110a60aa687c0e696ed32f3700059ebb645da968a0d6b33eba603735e311d5dc"), looks := true }, kinds := [], alts := [], laidByText := true, laidKinds := [.data, .data, .data], laidTests := true, laidLooks := .later }
def AdverbNobodyCardSaid : Prop := Claim7.holds Tryz.pinned (.plain (OpenSpec.ofChange adverbNobodySpec)) adverbNobodyCard

/-- THE TIED CARD OF 'reredoslaw17.AdverbParts'. -/
def adverbPartsCard : Claim7 := { stood := { row := adverbPartsRow, standIns := [], harness := (true, "110a60aa687c0e696ed32f3700059ebb645da968a0d6b33eba603735e311d5dc"), looks := true }, kinds := [], alts := [], laidByText := true, laidKinds := [.data, .data, .data, .sentinel, .sentinel, .data], laidTests := true, laidLooks := .later }
def AdverbPartsCardSaid : Prop := Claim7.holds Tryz.pinned (.plain (OpenSpec.ofChange adverbPartsSpec)) adverbPartsCard

/-- THE SECOND FORM's CARD OF 'reredoslaw17.AdverbOnes'. -/
def adverbOnesUptoCard : Claim7 := { stood := { row := adverbOnesUptoRow, standIns := [], harness := (true, "110a60aa687c0e696ed32f3700059ebb645da968a0d6b33eba603735e311d5dc"), looks := true }, kinds := [], alts := [], laidByText := true, laidKinds := [.data, .data, .data], laidTests := true, laidLooks := .later }
def AdverbOnesUptoCardSaid : Prop := Claim7.holds Tryz.pinned (.plain (OpenSpec.upto adverbOnesSpec)) adverbOnesUptoCard

/-- THE SECOND FORM's CARD OF 'reredoslaw17.AdverbScan'. -/
def adverbScanUptoCard : Claim7 := { stood := { row := adverbScanUptoRow, standIns := [], harness := (true, "110a60aa687c0e696ed32f3700059ebb645da968a0d6b33eba603735e311d5dc"), looks := true }, kinds := [], alts := [], laidByText := true, laidKinds := [.data, .data, .data], laidTests := true, laidLooks := .later }
def AdverbScanUptoCardSaid : Prop := Claim7.holds Tryz.pinned (.plain (OpenSpec.upto adverbScanSpec)) adverbScanUptoCard

/-- THE SECOND FORM's CARD OF 'reredoslaw17.AdverbSpread'. -/
def adverbSpreadUptoCard : Claim7 := { stood := { row := adverbSpreadUptoRow, standIns := [], harness := (true, "110a60aa687c0e696ed32f3700059ebb645da968a0d6b33eba603735e311d5dc"), looks := true }, kinds := [], alts := [], laidByText := true, laidKinds := [.data, .data, .data, .sentinel, .sentinel, .data, .data], laidTests := true, laidLooks := .later }
def AdverbSpreadUptoCardSaid : Prop := Claim7.holds Tryz.pinned (.plain (OpenSpec.upto adverbSpreadSpec)) adverbSpreadUptoCard

/-- THE SECOND FORM's CARD OF 'reredoslaw17.AdverbBack'. -/
def adverbBackUptoCard : Claim7 := { stood := { row := adverbBackUptoRow, standIns := [], harness := (true, "110a60aa687c0e696ed32f3700059ebb645da968a0d6b33eba603735e311d5dc"), looks := true }, kinds := [], alts := [], laidByText := true, laidKinds := [.data, .data, .data], laidTests := true, laidLooks := .later }
def AdverbBackUptoCardSaid : Prop := Claim7.holds Tryz.pinned (.plain (OpenSpec.upto adverbBackSpec)) adverbBackUptoCard

/-- THE SECOND FORM's CARD OF 'reredoslaw17.AdverbOuter'. -/
def adverbOuterUptoCard : Claim7 := { stood := { row := adverbOuterUptoRow, standIns := [], harness := (true, "110a60aa687c0e696ed32f3700059ebb645da968a0d6b33eba603735e311d5dc"), looks := true }, kinds := [], alts := [], laidByText := true, laidKinds := [.data, .data, .data, .sentinel, .sentinel, .data], laidTests := true, laidLooks := .later }
def AdverbOuterUptoCardSaid : Prop := Claim7.holds Tryz.pinned (.plain (OpenSpec.upto adverbOuterSpec)) adverbOuterUptoCard

/-- THE SECOND FORM's CARD OF 'reredoslaw17.AdverbNobody'. -/
def adverbNobodyUptoCard : Claim7 := { stood := { row := adverbNobodyUptoRow, standIns := [], harness := (true, "110a60aa687c0e696ed32f3700059ebb645da968a0d6b33eba603735e311d5dc"), looks := true }, kinds := [], alts := [], laidByText := true, laidKinds := [.data, .data, .data], laidTests := true, laidLooks := .later }
def AdverbNobodyUptoCardSaid : Prop := Claim7.holds Tryz.pinned (.plain (OpenSpec.upto adverbNobodySpec)) adverbNobodyUptoCard

/-- THE SECOND FORM's CARD OF 'reredoslaw17.AdverbParts'. -/
def adverbPartsUptoCard : Claim7 := { stood := { row := adverbPartsUptoRow, standIns := [], harness := (true, "110a60aa687c0e696ed32f3700059ebb645da968a0d6b33eba603735e311d5dc"), looks := true }, kinds := [], alts := [], laidByText := true, laidKinds := [.data, .data, .data, .sentinel, .sentinel, .data], laidTests := true, laidLooks := .later }
def AdverbPartsUptoCardSaid : Prop := Claim7.holds Tryz.pinned (.plain (OpenSpec.upto adverbPartsSpec)) adverbPartsUptoCard
end Rows
end Go.Proofs.YtbijncndjlmmdaaGreatDoor

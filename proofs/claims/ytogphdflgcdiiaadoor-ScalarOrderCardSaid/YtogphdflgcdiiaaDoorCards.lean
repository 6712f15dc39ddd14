/-
  DERIVED. GIVEN WITH THE SEED: THE CARDS: each row of YtogphdflgcdiiaaDoorRows.lean that lists a variable, with what it lists TIED to the program's text (the seventh form; the later family's looks); each row that meets fmt, with fmt's text TOLD by the authors' own Lean function (tested against real Go, not proved from fmt's source: count such statements apart). THE CARD IS WHAT COUNTS. Prove the row's statement (the work); the ties are given (YtogphdflgcdiiaaDoorTie.lean); close each card by the builder's one call (the guide's Derived/Test/ToyasCard.lean, 'card_holds'). Laid BY PROGRAM, IN A SANDBOX (cutbox-door.mjs). By AI agents, Wed Nov 11 2026. No macro, syntax, notation, axiom, sorry.
-/
import Derived.Test.YtogphdflgcdiiaaDoorRows
import GoSem.ClaimSeven
namespace Go.Proofs.YtogphdflgcdiiaaDoor
namespace Rows

/-- THE TIED CARD OF 'reredoslaw12.ScalarOrder'. -/
def scalarOrderCard : Claim7 := { stood := { row := scalarOrderRow, standIns := [], harness := (true, "27338e4481f4b3ac952fe310debd5040d9f0b0b3ca3fa0afb958f4d1ee58dbc8"), looks := false }, kinds := [], alts := [], laidByText := true, laidKinds := [.data, .data, .data, .data, .data], laidTests := true, laidLooks := .later }
def ScalarOrderCardSaid : Prop := Claim7.holds Tryd.pinned (.plain (OpenSpec.ofChange scalarOrderSpec)) scalarOrderCard

/-- THE TIED CARD OF 'reredoslaw12.ScalarWhole'. -/
def scalarWholeCard : Claim7 := { stood := { row := scalarWholeRow, standIns := [], harness := (true, "27338e4481f4b3ac952fe310debd5040d9f0b0b3ca3fa0afb958f4d1ee58dbc8"), looks := false }, kinds := [], alts := [], laidByText := true, laidKinds := [.data, .data, .data, .data, .data], laidTests := true, laidLooks := .later }
def ScalarWholeCardSaid : Prop := Claim7.holds Tryd.pinned (.plain (OpenSpec.ofChange scalarWholeSpec)) scalarWholeCard

/-- THE TIED CARD OF 'reredoslaw12.ScalarUnits'. -/
def scalarUnitsCard : Claim7 := { stood := { row := scalarUnitsRow, standIns := [], harness := (true, "27338e4481f4b3ac952fe310debd5040d9f0b0b3ca3fa0afb958f4d1ee58dbc8"), looks := false }, kinds := [], alts := [], laidByText := true, laidKinds := [.data, .data, .data, .data, .data], laidTests := true, laidLooks := .later }
def ScalarUnitsCardSaid : Prop := Claim7.holds Tryd.pinned (.plain (OpenSpec.ofChange scalarUnitsSpec)) scalarUnitsCard

/-- THE TIED CARD OF 'reredoslaw12.ScalarBits'. -/
def scalarBitsCard : Claim7 := { stood := { row := scalarBitsRow, standIns := [], harness := (true, "27338e4481f4b3ac952fe310debd5040d9f0b0b3ca3fa0afb958f4d1ee58dbc8"), looks := false }, kinds := [], alts := [], laidByText := true, laidKinds := [.data, .data, .data, .data, .data], laidTests := true, laidLooks := .later }
def ScalarBitsCardSaid : Prop := Claim7.holds Tryd.pinned (.plain (OpenSpec.ofChange scalarBitsSpec)) scalarBitsCard

/-- THE TIED CARD OF 'reredoslaw12.ScalarMod'. -/
def scalarModCard : Claim7 := { stood := { row := scalarModRow, standIns := [], harness := (true, "27338e4481f4b3ac952fe310debd5040d9f0b0b3ca3fa0afb958f4d1ee58dbc8"), looks := false }, kinds := [], alts := [], laidByText := true, laidKinds := [.data, .data, .data, .data, .data], laidTests := true, laidLooks := .later }
def ScalarModCardSaid : Prop := Claim7.holds Tryd.pinned (.plain (OpenSpec.ofChange scalarModSpec)) scalarModCard

/-- THE SECOND FORM's CARD OF 'reredoslaw12.ScalarOrder'. -/
def scalarOrderUptoCard : Claim7 := { stood := { row := scalarOrderUptoRow, standIns := [], harness := (true, "27338e4481f4b3ac952fe310debd5040d9f0b0b3ca3fa0afb958f4d1ee58dbc8"), looks := false }, kinds := [], alts := [], laidByText := true, laidKinds := [.data, .data, .data, .data, .data], laidTests := true, laidLooks := .later }
def ScalarOrderUptoCardSaid : Prop := Claim7.holds Tryd.pinned (.plain (OpenSpec.upto scalarOrderSpec)) scalarOrderUptoCard

/-- THE SECOND FORM's CARD OF 'reredoslaw12.ScalarWhole'. -/
def scalarWholeUptoCard : Claim7 := { stood := { row := scalarWholeUptoRow, standIns := [], harness := (true, "27338e4481f4b3ac952fe310debd5040d9f0b0b3ca3fa0afb958f4d1ee58dbc8"), looks := false }, kinds := [], alts := [], laidByText := true, laidKinds := [.data, .data, .data, .data, .data], laidTests := true, laidLooks := .later }
def ScalarWholeUptoCardSaid : Prop := Claim7.holds Tryd.pinned (.plain (OpenSpec.upto scalarWholeSpec)) scalarWholeUptoCard

/-- THE SECOND FORM's CARD OF 'reredoslaw12.ScalarUnits'. -/
def scalarUnitsUptoCard : Claim7 := { stood := { row := scalarUnitsUptoRow, standIns := [], harness := (true, "27338e4481f4b3ac952fe310debd5040d9f0b0b3ca3fa0afb958f4d1ee58dbc8"), looks := false }, kinds := [], alts := [], laidByText := true, laidKinds := [.data, .data, .data, .data, .data], laidTests := true, laidLooks := .later }
def ScalarUnitsUptoCardSaid : Prop := Claim7.holds Tryd.pinned (.plain (OpenSpec.upto scalarUnitsSpec)) scalarUnitsUptoCard

/-- THE SECOND FORM's CARD OF 'reredoslaw12.ScalarBits'. -/
def scalarBitsUptoCard : Claim7 := { stood := { row := scalarBitsUptoRow, standIns := [], harness := (true, "27338e4481f4b3ac952fe310debd5040d9f0b0b3ca3fa0afb958f4d1ee58dbc8"), looks := false }, kinds := [], alts := [], laidByText := true, laidKinds := [.data, .data, .data, .data, .data], laidTests := true, laidLooks := .later }
def ScalarBitsUptoCardSaid : Prop := Claim7.holds Tryd.pinned (.plain (OpenSpec.upto scalarBitsSpec)) scalarBitsUptoCard

/-- THE SECOND FORM's CARD OF 'reredoslaw12.ScalarMod'. -/
def scalarModUptoCard : Claim7 := { stood := { row := scalarModUptoRow, standIns := [], harness := (true, "27338e4481f4b3ac952fe310debd5040d9f0b0b3ca3fa0afb958f4d1ee58dbc8"), looks := false }, kinds := [], alts := [], laidByText := true, laidKinds := [.data, .data, .data, .data, .data], laidTests := true, laidLooks := .later }
def ScalarModUptoCardSaid : Prop := Claim7.holds Tryd.pinned (.plain (OpenSpec.upto scalarModSpec)) scalarModUptoCard
end Rows
end Go.Proofs.YtogphdflgcdiiaaDoor

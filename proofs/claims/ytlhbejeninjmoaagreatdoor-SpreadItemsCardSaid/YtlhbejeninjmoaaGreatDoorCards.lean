/-
  DERIVED. GIVEN WITH THE SEED: THE CARDS: each row of YtlhbejeninjmoaaGreatDoorRows.lean that lists a variable, with what it lists TIED to the program's text (the seventh form; the later family's looks); each row that meets fmt, with fmt's text TOLD by the authors' own Lean function (tested against real Go, not proved from fmt's source: count such statements apart). THE CARD IS WHAT COUNTS. Prove the row's statement (the work); the ties are given (YtlhbejeninjmoaaGreatDoorTie.lean); close each card by the builder's one call (the guide's Derived/Test/ToyasCard.lean, 'card_holds'). Laid BY PROGRAM, IN A SANDBOX (cutbox-door.mjs). By AI agents, Wed Nov 11 2026. No macro, syntax, notation, axiom, sorry.
-/
import Derived.Test.YtlhbejeninjmoaaGreatDoorRows
import GoSem.ClaimSeven
namespace Go.Proofs.YtlhbejeninjmoaaGreatDoor
namespace Rows

/-- THE TIED CARD OF 'reredoslaw13.SpreadTells'. -/
def spreadTellsCard : Claim7 := { stood := { row := spreadTellsRow, standIns := [], harness := (true, "62a4501a8a687f892b41fe644abdfb41bc7c44c34bbc2c4b8581a78db9ed662d"), looks := false }, kinds := [], alts := [], laidByText := true, laidKinds := [.data, .data, .data, .data, .data], laidTests := true, laidLooks := .later }
def SpreadTellsCardSaid : Prop := Claim7.holds Tryz.pinned (.plain (OpenSpec.ofChange spreadTellsSpec)) spreadTellsCard

/-- THE TIED CARD OF 'reredoslaw13.SpreadItems'. -/
def spreadItemsCard : Claim7 := { stood := { row := spreadItemsRow, standIns := [], harness := (true, "62a4501a8a687f892b41fe644abdfb41bc7c44c34bbc2c4b8581a78db9ed662d"), looks := false }, kinds := [], alts := [], laidByText := true, laidKinds := [.data, .data, .data, .data], laidTests := true, laidLooks := .later }
def SpreadItemsCardSaid : Prop := Claim7.holds Tryz.pinned (.plain (OpenSpec.ofChange spreadItemsSpec)) spreadItemsCard

/-- THE TIED CARD OF 'reredoslaw13.SpreadOrder'. -/
def spreadOrderCard : Claim7 := { stood := { row := spreadOrderRow, standIns := [], harness := (true, "62a4501a8a687f892b41fe644abdfb41bc7c44c34bbc2c4b8581a78db9ed662d"), looks := false }, kinds := [], alts := [], laidByText := true, laidKinds := [.data, .data, .data, .data, .data], laidTests := true, laidLooks := .later }
def SpreadOrderCardSaid : Prop := Claim7.holds Tryz.pinned (.plain (OpenSpec.ofChange spreadOrderSpec)) spreadOrderCard

/-- THE TIED CARD OF 'reredoslaw13.SpreadNothing'. -/
def spreadNothingCard : Claim7 := { stood := { row := spreadNothingRow, standIns := [], harness := (true, "62a4501a8a687f892b41fe644abdfb41bc7c44c34bbc2c4b8581a78db9ed662d"), looks := false }, kinds := [], alts := [], laidByText := true, laidKinds := [.data, .data, .data, .data], laidTests := true, laidLooks := .later }
def SpreadNothingCardSaid : Prop := Claim7.holds Tryz.pinned (.plain (OpenSpec.ofChange spreadNothingSpec)) spreadNothingCard

/-- THE TIED CARD OF 'reredoslaw13.SpreadTwice'. -/
def spreadTwiceCard : Claim7 := { stood := { row := spreadTwiceRow, standIns := [], harness := (true, "62a4501a8a687f892b41fe644abdfb41bc7c44c34bbc2c4b8581a78db9ed662d"), looks := false }, kinds := [], alts := [], laidByText := true, laidKinds := [.data, .data, .data, .data, .data], laidTests := true, laidLooks := .later }
def SpreadTwiceCardSaid : Prop := Claim7.holds Tryz.pinned (.plain (OpenSpec.ofChange spreadTwiceSpec)) spreadTwiceCard

/-- THE TIED CARD OF 'reredoslaw13.SpreadSelf'. -/
def spreadSelfCard : Claim7 := { stood := { row := spreadSelfRow, standIns := [], harness := (true, "62a4501a8a687f892b41fe644abdfb41bc7c44c34bbc2c4b8581a78db9ed662d"), looks := false }, kinds := [], alts := [], laidByText := true, laidKinds := [.data, .data, .data, .data], laidTests := true, laidLooks := .later }
def SpreadSelfCardSaid : Prop := Claim7.holds Tryz.pinned (.plain (OpenSpec.ofChange spreadSelfSpec)) spreadSelfCard

/-- THE SECOND FORM's CARD OF 'reredoslaw13.SpreadTells'. -/
def spreadTellsUptoCard : Claim7 := { stood := { row := spreadTellsUptoRow, standIns := [], harness := (true, "62a4501a8a687f892b41fe644abdfb41bc7c44c34bbc2c4b8581a78db9ed662d"), looks := false }, kinds := [], alts := [], laidByText := true, laidKinds := [.data, .data, .data, .data, .data], laidTests := true, laidLooks := .later }
def SpreadTellsUptoCardSaid : Prop := Claim7.holds Tryz.pinned (.plain (OpenSpec.upto spreadTellsSpec)) spreadTellsUptoCard

/-- THE SECOND FORM's CARD OF 'reredoslaw13.SpreadItems'. -/
def spreadItemsUptoCard : Claim7 := { stood := { row := spreadItemsUptoRow, standIns := [], harness := (true, "62a4501a8a687f892b41fe644abdfb41bc7c44c34bbc2c4b8581a78db9ed662d"), looks := false }, kinds := [], alts := [], laidByText := true, laidKinds := [.data, .data, .data, .data], laidTests := true, laidLooks := .later }
def SpreadItemsUptoCardSaid : Prop := Claim7.holds Tryz.pinned (.plain (OpenSpec.upto spreadItemsSpec)) spreadItemsUptoCard

/-- THE SECOND FORM's CARD OF 'reredoslaw13.SpreadOrder'. -/
def spreadOrderUptoCard : Claim7 := { stood := { row := spreadOrderUptoRow, standIns := [], harness := (true, "62a4501a8a687f892b41fe644abdfb41bc7c44c34bbc2c4b8581a78db9ed662d"), looks := false }, kinds := [], alts := [], laidByText := true, laidKinds := [.data, .data, .data, .data, .data], laidTests := true, laidLooks := .later }
def SpreadOrderUptoCardSaid : Prop := Claim7.holds Tryz.pinned (.plain (OpenSpec.upto spreadOrderSpec)) spreadOrderUptoCard

/-- THE SECOND FORM's CARD OF 'reredoslaw13.SpreadNothing'. -/
def spreadNothingUptoCard : Claim7 := { stood := { row := spreadNothingUptoRow, standIns := [], harness := (true, "62a4501a8a687f892b41fe644abdfb41bc7c44c34bbc2c4b8581a78db9ed662d"), looks := false }, kinds := [], alts := [], laidByText := true, laidKinds := [.data, .data, .data, .data], laidTests := true, laidLooks := .later }
def SpreadNothingUptoCardSaid : Prop := Claim7.holds Tryz.pinned (.plain (OpenSpec.upto spreadNothingSpec)) spreadNothingUptoCard

/-- THE SECOND FORM's CARD OF 'reredoslaw13.SpreadTwice'. -/
def spreadTwiceUptoCard : Claim7 := { stood := { row := spreadTwiceUptoRow, standIns := [], harness := (true, "62a4501a8a687f892b41fe644abdfb41bc7c44c34bbc2c4b8581a78db9ed662d"), looks := false }, kinds := [], alts := [], laidByText := true, laidKinds := [.data, .data, .data, .data, .data], laidTests := true, laidLooks := .later }
def SpreadTwiceUptoCardSaid : Prop := Claim7.holds Tryz.pinned (.plain (OpenSpec.upto spreadTwiceSpec)) spreadTwiceUptoCard

/-- THE SECOND FORM's CARD OF 'reredoslaw13.SpreadSelf'. -/
def spreadSelfUptoCard : Claim7 := { stood := { row := spreadSelfUptoRow, standIns := [], harness := (true, "62a4501a8a687f892b41fe644abdfb41bc7c44c34bbc2c4b8581a78db9ed662d"), looks := false }, kinds := [], alts := [], laidByText := true, laidKinds := [.data, .data, .data, .data], laidTests := true, laidLooks := .later }
def SpreadSelfUptoCardSaid : Prop := Claim7.holds Tryz.pinned (.plain (OpenSpec.upto spreadSelfSpec)) spreadSelfUptoCard
end Rows
end Go.Proofs.YtlhbejeninjmoaaGreatDoor

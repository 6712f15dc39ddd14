/-
  DERIVED. GIVEN WITH THE SEED: THE CARDS: each row of YtogphdflgcdiiaaGreatDoorRows.lean that lists a variable, with what it lists TIED to the program's text (the seventh form; the later family's looks); each row that meets fmt, with fmt's text TOLD by the authors' own Lean function (tested against real Go, not proved from fmt's source: count such statements apart). THE CARD IS WHAT COUNTS. Prove the row's statement (the work); the ties are given (YtogphdflgcdiiaaGreatDoorTie.lean); close each card by the builder's one call (the guide's Derived/Test/ToyasCard.lean, 'card_holds'). Laid BY PROGRAM, IN A SANDBOX (cutbox-door.mjs). By AI agents, Wed Nov 11 2026. No macro, syntax, notation, axiom, sorry.
-/
import Derived.Test.YtogphdflgcdiiaaGreatDoorRows
import GoSem.ClaimSeven
namespace Go.Proofs.YtogphdflgcdiiaaGreatDoor
namespace Rows

/-- THE TIED CARD OF 'reredoslaw12.ScalarTells'. -/
def scalarTellsCard : Claim7 := { stood := { row := scalarTellsRow, standIns := [], harness := (true, "3b085053da0bd42f3253b6172033fa95d32a59b11f3af639f6b7f8010a84efc0"), looks := false }, kinds := [], alts := [], laidByText := true, laidKinds := [.data, .data, .data, .data, .data], laidTests := true, laidLooks := .later }
def ScalarTellsCardSaid : Prop := Claim7.holds Tryz.pinned (.plain (OpenSpec.ofChange scalarTellsSpec)) scalarTellsCard

/-- THE SECOND FORM's CARD OF 'reredoslaw12.ScalarTells'. -/
def scalarTellsUptoCard : Claim7 := { stood := { row := scalarTellsUptoRow, standIns := [], harness := (true, "3b085053da0bd42f3253b6172033fa95d32a59b11f3af639f6b7f8010a84efc0"), looks := false }, kinds := [], alts := [], laidByText := true, laidKinds := [.data, .data, .data, .data, .data], laidTests := true, laidLooks := .later }
def ScalarTellsUptoCardSaid : Prop := Claim7.holds Tryz.pinned (.plain (OpenSpec.upto scalarTellsSpec)) scalarTellsUptoCard
end Rows
end Go.Proofs.YtogphdflgcdiiaaGreatDoor

/-
  DERIVED. GIVEN WITH THE SEED: THE CARDS: each row of YtpledghphljfkaaGreatDoorRows.lean that lists a variable, with what it lists TIED to the program's text (the seventh form; the later family's looks); each row that meets fmt, with fmt's text TOLD by the authors' own Lean function (tested against real Go, not proved from fmt's source: count such statements apart). THE CARD IS WHAT COUNTS. Prove the row's statement (the work); the ties are given (YtpledghphljfkaaGreatDoorTie.lean); close each card by the builder's one call (the guide's Derived/Test/ToyasCard.lean, 'card_holds'). Laid BY PROGRAM, IN A SANDBOX (cutbox-door.mjs). By AI agents, Wed Nov 11 2026. No macro, syntax, notation, axiom, sorry.
-/
import Derived.Test.YtpledghphljfkaaGreatDoorRows
import GoSem.ClaimSeven
namespace Go.Proofs.YtpledghphljfkaaGreatDoor
namespace Rows

/-- THE TIED CARD OF 'reredoslaw15.SeekOnes'. -/
def seekOnesCard : Claim7 := { stood := { row := seekOnesRow, standIns := [], harness := (true, "40da800c0e03ac2e1714afd2a910dd12cb7969efba7c81b1b71205f2225940a1"), looks := true }, kinds := [], alts := [], laidByText := true, laidKinds := [.data, .data, .data, .sentinel, .sentinel], laidTests := true, laidLooks := .later }
def SeekOnesCardSaid : Prop := Claim7.holds Tryz.pinned (.plain (OpenSpec.ofChange seekOnesSpec)) seekOnesCard

/-- THE TIED CARD OF 'reredoslaw15.SeekTwos'. -/
def seekTwosCard : Claim7 := { stood := { row := seekTwosRow, standIns := [], harness := (true, "40da800c0e03ac2e1714afd2a910dd12cb7969efba7c81b1b71205f2225940a1"), looks := true }, kinds := [], alts := [], laidByText := true, laidKinds := [.data, .data, .data, .sentinel, .sentinel], laidTests := true, laidLooks := .later }
def SeekTwosCardSaid : Prop := Claim7.holds Tryz.pinned (.plain (OpenSpec.ofChange seekTwosSpec)) seekTwosCard

/-- THE SECOND FORM's CARD OF 'reredoslaw15.SeekOnes'. -/
def seekOnesUptoCard : Claim7 := { stood := { row := seekOnesUptoRow, standIns := [], harness := (true, "40da800c0e03ac2e1714afd2a910dd12cb7969efba7c81b1b71205f2225940a1"), looks := true }, kinds := [], alts := [], laidByText := true, laidKinds := [.data, .data, .data, .sentinel, .sentinel], laidTests := true, laidLooks := .later }
def SeekOnesUptoCardSaid : Prop := Claim7.holds Tryz.pinned (.plain (OpenSpec.upto seekOnesSpec)) seekOnesUptoCard

/-- THE SECOND FORM's CARD OF 'reredoslaw15.SeekTwos'. -/
def seekTwosUptoCard : Claim7 := { stood := { row := seekTwosUptoRow, standIns := [], harness := (true, "40da800c0e03ac2e1714afd2a910dd12cb7969efba7c81b1b71205f2225940a1"), looks := true }, kinds := [], alts := [], laidByText := true, laidKinds := [.data, .data, .data, .sentinel, .sentinel], laidTests := true, laidLooks := .later }
def SeekTwosUptoCardSaid : Prop := Claim7.holds Tryz.pinned (.plain (OpenSpec.upto seekTwosSpec)) seekTwosUptoCard
end Rows
end Go.Proofs.YtpledghphljfkaaGreatDoor

/-
  DERIVED. GIVEN WITH THE SEED: THE CARDS: each row of YtjpjccilnmlmnaaGreatDoorRows.lean that lists a variable, with what it lists TIED to the program's text (the seventh form; the later family's looks); each row that meets fmt, with fmt's text TOLD by the authors' own Lean function (tested against real Go, not proved from fmt's source: count such statements apart). THE CARD IS WHAT COUNTS. Prove the row's statement (the work); the ties are given (YtjpjccilnmlmnaaGreatDoorTie.lean); close each card by the builder's one call (the guide's Derived/Test/ToyasCard.lean, 'card_holds'). Laid BY PROGRAM, IN A SANDBOX (cutbox-door.mjs). By AI agents, Wed Nov 11 2026. No macro, syntax, notation, axiom, sorry.
-/
import Derived.Test.YtjpjccilnmlmnaaGreatDoorRows
import GoSem.ClaimSeven
namespace Go.Proofs.YtjpjccilnmlmnaaGreatDoor
namespace Rows

/-- THE TIED CARD OF 'reredoslaw14.MouldOnes'. -/
def mouldOnesCard : Claim7 := { stood := { row := mouldOnesRow, standIns := [], harness := (true, "71c9e390f94c8c7b6bdf99965b43fb75354d17ccfdadebee684785efbff0675f"), looks := true }, kinds := [], alts := [], laidByText := true, laidKinds := [.data, .data, .data, .sentinel, .sentinel], laidTests := true, laidLooks := .later }
def MouldOnesCardSaid : Prop := Claim7.holds Tryz.pinned (.plain (OpenSpec.ofChange mouldOnesSpec)) mouldOnesCard

/-- THE TIED CARD OF 'reredoslaw14.MouldTwos'. -/
def mouldTwosCard : Claim7 := { stood := { row := mouldTwosRow, standIns := [], harness := (true, "71c9e390f94c8c7b6bdf99965b43fb75354d17ccfdadebee684785efbff0675f"), looks := true }, kinds := [], alts := [], laidByText := true, laidKinds := [.data, .data, .data, .sentinel, .sentinel], laidTests := true, laidLooks := .later }
def MouldTwosCardSaid : Prop := Claim7.holds Tryz.pinned (.plain (OpenSpec.ofChange mouldTwosSpec)) mouldTwosCard

/-- THE SECOND FORM's CARD OF 'reredoslaw14.MouldOnes'. -/
def mouldOnesUptoCard : Claim7 := { stood := { row := mouldOnesUptoRow, standIns := [], harness := (true, "71c9e390f94c8c7b6bdf99965b43fb75354d17ccfdadebee684785efbff0675f"), looks := true }, kinds := [], alts := [], laidByText := true, laidKinds := [.data, .data, .data, .sentinel, .sentinel], laidTests := true, laidLooks := .later }
def MouldOnesUptoCardSaid : Prop := Claim7.holds Tryz.pinned (.plain (OpenSpec.upto mouldOnesSpec)) mouldOnesUptoCard

/-- THE SECOND FORM's CARD OF 'reredoslaw14.MouldTwos'. -/
def mouldTwosUptoCard : Claim7 := { stood := { row := mouldTwosUptoRow, standIns := [], harness := (true, "71c9e390f94c8c7b6bdf99965b43fb75354d17ccfdadebee684785efbff0675f"), looks := true }, kinds := [], alts := [], laidByText := true, laidKinds := [.data, .data, .data, .sentinel, .sentinel], laidTests := true, laidLooks := .later }
def MouldTwosUptoCardSaid : Prop := Claim7.holds Tryz.pinned (.plain (OpenSpec.upto mouldTwosSpec)) mouldTwosUptoCard
end Rows
end Go.Proofs.YtjpjccilnmlmnaaGreatDoor

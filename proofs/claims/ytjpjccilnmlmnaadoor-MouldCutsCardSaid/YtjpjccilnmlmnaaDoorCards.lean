/-
  DERIVED. GIVEN WITH THE SEED: THE CARDS: each row of YtjpjccilnmlmnaaDoorRows.lean that lists a variable, with what it lists TIED to the program's text (the seventh form; the later family's looks); each row that meets fmt, with fmt's text TOLD by the authors' own Lean function (tested against real Go, not proved from fmt's source: count such statements apart). THE CARD IS WHAT COUNTS. Prove the row's statement (the work); the ties are given (YtjpjccilnmlmnaaDoorTie.lean); close each card by the builder's one call (the guide's Derived/Test/ToyasCard.lean, 'card_holds'). Laid BY PROGRAM, IN A SANDBOX (cutbox-door.mjs). By AI agents, Wed Nov 11 2026. No macro, syntax, notation, axiom, sorry.
-/
import Derived.Test.YtjpjccilnmlmnaaDoorRows
import GoSem.ClaimSeven
namespace Go.Proofs.YtjpjccilnmlmnaaDoor
namespace Rows

/-- THE TIED CARD OF 'reredoslaw14.MouldCuts'. -/
def mouldCutsCard : Claim7 := { stood := { row := mouldCutsRow, standIns := [], harness := (true, "cc6235f225c0efd1a4604fdd4030e3dcab1a29e687c038ab0d897bfa6dd224d5"), looks := true }, kinds := [], alts := [], laidByText := true, laidKinds := [.data, .data, .data, .sentinel, .sentinel], laidTests := true, laidLooks := .later }
def MouldCutsCardSaid : Prop := Claim7.holds Tryd.pinned (.plain (OpenSpec.ofChange mouldCutsSpec)) mouldCutsCard

/-- THE TIED CARD OF 'reredoslaw14.MouldTwice'. -/
def mouldTwiceCard : Claim7 := { stood := { row := mouldTwiceRow, standIns := [], harness := (true, "cc6235f225c0efd1a4604fdd4030e3dcab1a29e687c038ab0d897bfa6dd224d5"), looks := true }, kinds := [], alts := [], laidByText := true, laidKinds := [.data, .data, .data, .sentinel, .sentinel], laidTests := true, laidLooks := .later }
def MouldTwiceCardSaid : Prop := Claim7.holds Tryd.pinned (.plain (OpenSpec.ofChange mouldTwiceSpec)) mouldTwiceCard

/-- THE TIED CARD OF 'reredoslaw14.MouldIota'. -/
def mouldIotaCard : Claim7 := { stood := { row := mouldIotaRow, standIns := [], harness := (true, "cc6235f225c0efd1a4604fdd4030e3dcab1a29e687c038ab0d897bfa6dd224d5"), looks := true }, kinds := [], alts := [], laidByText := true, laidKinds := [.data, .data, .data, .sentinel, .sentinel], laidTests := true, laidLooks := .later }
def MouldIotaCardSaid : Prop := Claim7.holds Tryd.pinned (.plain (OpenSpec.ofChange mouldIotaSpec)) mouldIotaCard

/-- THE TIED CARD OF 'reredoslaw14.MouldJoins'. -/
def mouldJoinsCard : Claim7 := { stood := { row := mouldJoinsRow, standIns := [], harness := (true, "cc6235f225c0efd1a4604fdd4030e3dcab1a29e687c038ab0d897bfa6dd224d5"), looks := true }, kinds := [], alts := [], laidByText := true, laidKinds := [.data, .data, .data, .sentinel, .sentinel], laidTests := true, laidLooks := .later }
def MouldJoinsCardSaid : Prop := Claim7.holds Tryd.pinned (.plain (OpenSpec.ofChange mouldJoinsSpec)) mouldJoinsCard

/-- THE SECOND FORM's CARD OF 'reredoslaw14.MouldCuts'. -/
def mouldCutsUptoCard : Claim7 := { stood := { row := mouldCutsUptoRow, standIns := [], harness := (true, "cc6235f225c0efd1a4604fdd4030e3dcab1a29e687c038ab0d897bfa6dd224d5"), looks := true }, kinds := [], alts := [], laidByText := true, laidKinds := [.data, .data, .data, .sentinel, .sentinel], laidTests := true, laidLooks := .later }
def MouldCutsUptoCardSaid : Prop := Claim7.holds Tryd.pinned (.plain (OpenSpec.upto mouldCutsSpec)) mouldCutsUptoCard

/-- THE SECOND FORM's CARD OF 'reredoslaw14.MouldTwice'. -/
def mouldTwiceUptoCard : Claim7 := { stood := { row := mouldTwiceUptoRow, standIns := [], harness := (true, "cc6235f225c0efd1a4604fdd4030e3dcab1a29e687c038ab0d897bfa6dd224d5"), looks := true }, kinds := [], alts := [], laidByText := true, laidKinds := [.data, .data, .data, .sentinel, .sentinel], laidTests := true, laidLooks := .later }
def MouldTwiceUptoCardSaid : Prop := Claim7.holds Tryd.pinned (.plain (OpenSpec.upto mouldTwiceSpec)) mouldTwiceUptoCard

/-- THE SECOND FORM's CARD OF 'reredoslaw14.MouldIota'. -/
def mouldIotaUptoCard : Claim7 := { stood := { row := mouldIotaUptoRow, standIns := [], harness := (true, "cc6235f225c0efd1a4604fdd4030e3dcab1a29e687c038ab0d897bfa6dd224d5"), looks := true }, kinds := [], alts := [], laidByText := true, laidKinds := [.data, .data, .data, .sentinel, .sentinel], laidTests := true, laidLooks := .later }
def MouldIotaUptoCardSaid : Prop := Claim7.holds Tryd.pinned (.plain (OpenSpec.upto mouldIotaSpec)) mouldIotaUptoCard

/-- THE SECOND FORM's CARD OF 'reredoslaw14.MouldJoins'. -/
def mouldJoinsUptoCard : Claim7 := { stood := { row := mouldJoinsUptoRow, standIns := [], harness := (true, "cc6235f225c0efd1a4604fdd4030e3dcab1a29e687c038ab0d897bfa6dd224d5"), looks := true }, kinds := [], alts := [], laidByText := true, laidKinds := [.data, .data, .data, .sentinel, .sentinel], laidTests := true, laidLooks := .later }
def MouldJoinsUptoCardSaid : Prop := Claim7.holds Tryd.pinned (.plain (OpenSpec.upto mouldJoinsSpec)) mouldJoinsUptoCard
end Rows
end Go.Proofs.YtjpjccilnmlmnaaDoor

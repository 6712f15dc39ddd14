/-
  DERIVED. GIVEN WITH THE SEED: THE CARDS: each row of YtpledghphljfkaaDoorRows.lean that lists a variable, with what it lists TIED to the program's text (the seventh form; the later family's looks); each row that meets fmt, with fmt's text TOLD by the authors' own Lean function (tested against real Go, not proved from fmt's source: count such statements apart). THE CARD IS WHAT COUNTS. Prove the row's statement (the work); the ties are given (YtpledghphljfkaaDoorTie.lean); close each card by the builder's one call (the guide's Derived/Test/ToyasCard.lean, 'card_holds'). Laid BY PROGRAM, IN A SANDBOX (cutbox-door.mjs). By AI agents, Wed Nov 11 2026. No macro, syntax, notation, axiom, sorry.
-/
import Derived.Test.YtpledghphljfkaaDoorRows
import GoSem.ClaimSeven
namespace Go.Proofs.YtpledghphljfkaaDoor
namespace Rows

/-- THE TIED CARD OF 'reredoslaw15.SeekRises'. -/
def seekRisesCard : Claim7 := { stood := { row := seekRisesRow, standIns := [], harness := (true, "03003a23a398c18355f68549d32ddb89b1b778adce790627e173a56712de5aa2"), looks := true }, kinds := [], alts := [], laidByText := true, laidKinds := [.data, .data, .data, .sentinel, .sentinel], laidTests := true, laidLooks := .later }
def SeekRisesCardSaid : Prop := Claim7.holds Tryd.pinned (.plain (OpenSpec.ofChange seekRisesSpec)) seekRisesCard

/-- THE TIED CARD OF 'reredoslaw15.SeekFinds'. -/
def seekFindsCard : Claim7 := { stood := { row := seekFindsRow, standIns := [], harness := (true, "03003a23a398c18355f68549d32ddb89b1b778adce790627e173a56712de5aa2"), looks := true }, kinds := [], alts := [], laidByText := true, laidKinds := [.data, .data, .data, .sentinel, .sentinel], laidTests := true, laidLooks := .later }
def SeekFindsCardSaid : Prop := Claim7.holds Tryd.pinned (.plain (OpenSpec.ofChange seekFindsSpec)) seekFindsCard

/-- THE TIED CARD OF 'reredoslaw15.SeekAmends'. -/
def seekAmendsCard : Claim7 := { stood := { row := seekAmendsRow, standIns := [], harness := (true, "03003a23a398c18355f68549d32ddb89b1b778adce790627e173a56712de5aa2"), looks := true }, kinds := [], alts := [], laidByText := true, laidKinds := [.data, .data, .data, .sentinel, .sentinel], laidTests := true, laidLooks := .later }
def SeekAmendsCardSaid : Prop := Claim7.holds Tryd.pinned (.plain (OpenSpec.ofChange seekAmendsSpec)) seekAmendsCard

/-- THE TIED CARD OF 'reredoslaw15.SeekWhere'. -/
def seekWhereCard : Claim7 := { stood := { row := seekWhereRow, standIns := [], harness := (true, "03003a23a398c18355f68549d32ddb89b1b778adce790627e173a56712de5aa2"), looks := true }, kinds := [], alts := [], laidByText := true, laidKinds := [.data, .data, .data, .sentinel, .sentinel], laidTests := true, laidLooks := .later }
def SeekWhereCardSaid : Prop := Claim7.holds Tryd.pinned (.plain (OpenSpec.ofChange seekWhereSpec)) seekWhereCard

/-- THE SECOND FORM's CARD OF 'reredoslaw15.SeekRises'. -/
def seekRisesUptoCard : Claim7 := { stood := { row := seekRisesUptoRow, standIns := [], harness := (true, "03003a23a398c18355f68549d32ddb89b1b778adce790627e173a56712de5aa2"), looks := true }, kinds := [], alts := [], laidByText := true, laidKinds := [.data, .data, .data, .sentinel, .sentinel], laidTests := true, laidLooks := .later }
def SeekRisesUptoCardSaid : Prop := Claim7.holds Tryd.pinned (.plain (OpenSpec.upto seekRisesSpec)) seekRisesUptoCard

/-- THE SECOND FORM's CARD OF 'reredoslaw15.SeekFinds'. -/
def seekFindsUptoCard : Claim7 := { stood := { row := seekFindsUptoRow, standIns := [], harness := (true, "03003a23a398c18355f68549d32ddb89b1b778adce790627e173a56712de5aa2"), looks := true }, kinds := [], alts := [], laidByText := true, laidKinds := [.data, .data, .data, .sentinel, .sentinel], laidTests := true, laidLooks := .later }
def SeekFindsUptoCardSaid : Prop := Claim7.holds Tryd.pinned (.plain (OpenSpec.upto seekFindsSpec)) seekFindsUptoCard

/-- THE SECOND FORM's CARD OF 'reredoslaw15.SeekAmends'. -/
def seekAmendsUptoCard : Claim7 := { stood := { row := seekAmendsUptoRow, standIns := [], harness := (true, "03003a23a398c18355f68549d32ddb89b1b778adce790627e173a56712de5aa2"), looks := true }, kinds := [], alts := [], laidByText := true, laidKinds := [.data, .data, .data, .sentinel, .sentinel], laidTests := true, laidLooks := .later }
def SeekAmendsUptoCardSaid : Prop := Claim7.holds Tryd.pinned (.plain (OpenSpec.upto seekAmendsSpec)) seekAmendsUptoCard

/-- THE SECOND FORM's CARD OF 'reredoslaw15.SeekWhere'. -/
def seekWhereUptoCard : Claim7 := { stood := { row := seekWhereUptoRow, standIns := [], harness := (true, "03003a23a398c18355f68549d32ddb89b1b778adce790627e173a56712de5aa2"), looks := true }, kinds := [], alts := [], laidByText := true, laidKinds := [.data, .data, .data, .sentinel, .sentinel], laidTests := true, laidLooks := .later }
def SeekWhereUptoCardSaid : Prop := Claim7.holds Tryd.pinned (.plain (OpenSpec.upto seekWhereSpec)) seekWhereUptoCard
end Rows
end Go.Proofs.YtpledghphljfkaaDoor

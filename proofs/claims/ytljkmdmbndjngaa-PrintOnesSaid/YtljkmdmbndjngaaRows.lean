/-
  No cell of these rows narrows 'for every input' (looked for: loops, veiled, ifaces, maps, wideKeys, modest, calm, conditions, laid).
  DERIVED. THE GIVEN ROWS OF THIS SEAT. 4 by the template 'for every input the law returns true; each argument reads behind the call as it read before'; 0 by the template 'total and deterministic' (their statements: YtljkmdmbndjngaaTotals.lean).
  GIVEN WITH THE SEED: the statements are not yours to turn. If you find one false, say at which input.
  Laid BY PROGRAM, IN A SANDBOX (cutbox-rows.mjs): the forced cells as the released guide's own fill.sh prints them over the translation 90b994dcb339f020… (all of the seat's roots in one cut). By AI agents, Wed Nov 11 2026. No macro, syntax, notation, axiom, sorry.
-/
import Derived.Test.YtljkmdmbndjngaaChecked
import GoSem.Claim
import GoSem.ClaimJoined
import GoSem.ClaimMapViews
import Derived.JoinedTies
import Derived.KernelRfl
namespace Go.Proofs.Ytljkmdmbndjngaa
/- THE CELL 'sum', in the pinned program and in every row, IS THE sha256 OF THE DUMP (.gsa) THAT YtljkmdmbndjngaaProg.lean LOADS. Nothing in Lean hashes anything: it is a label: what it is worth is what the hold of that sum in a sandbox is worth. -/
noncomputable def Try.pinned : Pinned := { name := "ytljkmdmbndjngaa", sum := "90b994dcb339f020c5aec58dc1bea148ed5f4149b6e12bb9022738a768f93a23", checked := Try.checked }
namespace Rows
def none {H : Type} : Left H := { results := [], args := [] }

/-- 'reredoslaw10.PrintBack': WHATEVER THE INPUT: true; the input reads as it did. -/
def printBackSpec : ChangeSpec := { name := "printBack", fn := fun _ => fun
  | [d] => { results := [.lit (.bool true)], args := [d] }
  | _ => none }
def printBackRow : OpenClaim := { program := "ytljkmdmbndjngaa", sum := "90b994dcb339f020c5aec58dc1bea148ed5f4149b6e12bb9022738a768f93a23", func := "reredos/reredoslaw10.PrintBack", spec := "printBack", inPlace := ["internal/bytealg.IndexByteString", "internal/bytealg.IndexString", "internal/abi.NoEscape", "internal/bytealg.MakeNoZero"], unfollowed := true, recurses := true, named := ["internal/bytealg.MaxLen"], apart := false }
def PrintBackSaid : Prop := printBackRow.holds Try.pinned (OpenSpec.ofChange printBackSpec)

/-- ITS FALSE NEIGHBOUR: 'it returns false'. Refute it at one input. -/
def printBackWrong : ChangeSpec := { name := "printBack", fn := fun _ => fun
  | [d] => { results := [.lit (.bool false)], args := [d] }
  | _ => none }
def PrintBackWrongFalsely : Prop := printBackRow.holds Try.pinned (OpenSpec.ofChange printBackWrong)

/-- 'reredoslaw10.PrintTwice': WHATEVER THE INPUT: true; the input reads as it did. -/
def printTwiceSpec : ChangeSpec := { name := "printTwice", fn := fun _ => fun
  | [d] => { results := [.lit (.bool true)], args := [d] }
  | _ => none }
def printTwiceRow : OpenClaim := { program := "ytljkmdmbndjngaa", sum := "90b994dcb339f020c5aec58dc1bea148ed5f4149b6e12bb9022738a768f93a23", func := "reredos/reredoslaw10.PrintTwice", spec := "printTwice", inPlace := ["internal/bytealg.IndexByteString", "internal/bytealg.IndexString", "internal/abi.NoEscape", "internal/bytealg.MakeNoZero"], unfollowed := true, recurses := true, named := ["internal/bytealg.MaxLen"], apart := false }
def PrintTwiceSaid : Prop := printTwiceRow.holds Try.pinned (OpenSpec.ofChange printTwiceSpec)

/-- ITS FALSE NEIGHBOUR: 'it returns false'. Refute it at one input. -/
def printTwiceWrong : ChangeSpec := { name := "printTwice", fn := fun _ => fun
  | [d] => { results := [.lit (.bool false)], args := [d] }
  | _ => none }
def PrintTwiceWrongFalsely : Prop := printTwiceRow.holds Try.pinned (OpenSpec.ofChange printTwiceWrong)

/-- 'reredoslaw10.PrintOnes': WHATEVER THE INPUT: true; the input reads as it did. -/
def printOnesSpec : ChangeSpec := { name := "printOnes", fn := fun _ => fun
  | [d1, d2] => { results := [.lit (.bool true)], args := [d1, d2] }
  | _ => none }
def printOnesRow : OpenClaim := { program := "ytljkmdmbndjngaa", sum := "90b994dcb339f020c5aec58dc1bea148ed5f4149b6e12bb9022738a768f93a23", func := "reredos/reredoslaw10.PrintOnes", spec := "printOnes", inPlace := ["internal/bytealg.IndexByteString", "internal/bytealg.IndexString", "internal/abi.NoEscape", "internal/bytealg.MakeNoZero"], unfollowed := true, recurses := true, named := ["internal/bytealg.MaxLen"], apart := false }
def PrintOnesSaid : Prop := printOnesRow.holds Try.pinned (OpenSpec.ofChange printOnesSpec)

/-- ITS FALSE NEIGHBOUR: 'it returns false'. Refute it at one input. -/
def printOnesWrong : ChangeSpec := { name := "printOnes", fn := fun _ => fun
  | [d1, d2] => { results := [.lit (.bool false)], args := [d1, d2] }
  | _ => none }
def PrintOnesWrongFalsely : Prop := printOnesRow.holds Try.pinned (OpenSpec.ofChange printOnesWrong)

/-- 'reredoslaw10.PrintBlanks': WHATEVER THE INPUT: true; the input reads as it did. -/
def printBlanksSpec : ChangeSpec := { name := "printBlanks", fn := fun _ => fun
  | [d] => { results := [.lit (.bool true)], args := [d] }
  | _ => none }
def printBlanksRow : OpenClaim := { program := "ytljkmdmbndjngaa", sum := "90b994dcb339f020c5aec58dc1bea148ed5f4149b6e12bb9022738a768f93a23", func := "reredos/reredoslaw10.PrintBlanks", spec := "printBlanks", inPlace := ["internal/bytealg.IndexByteString", "internal/bytealg.IndexString", "internal/abi.NoEscape", "internal/bytealg.MakeNoZero"], unfollowed := true, recurses := true, named := ["internal/bytealg.MaxLen"], apart := false }
def PrintBlanksSaid : Prop := printBlanksRow.holds Try.pinned (OpenSpec.ofChange printBlanksSpec)

/-- ITS FALSE NEIGHBOUR: 'it returns false'. Refute it at one input. -/
def printBlanksWrong : ChangeSpec := { name := "printBlanks", fn := fun _ => fun
  | [d] => { results := [.lit (.bool false)], args := [d] }
  | _ => none }
def PrintBlanksWrongFalsely : Prop := printBlanksRow.holds Try.pinned (OpenSpec.ofChange printBlanksWrong)

/- THE SECOND FORM. 'bulk': how many values and letters a reading holds, each counted each time it is reached (what is shared counts as often as it is met; a slice's spare places count too). A statement '..UptoSaid' is the law's where the arguments, and the package variables that the reading takes, are together of bulk at most 1048576: NARROWER than '..Said'. Prove '..Said' where nothing that the law and all that it calls make is longer than what came in: it says more and counts as full. Else prove '..UptoSaid'. A law counts once. -/
mutual
def uptoBulk {H : Type} : DataW H → Nat
  | .lit (.string bytes) => bytes.length + 1
  | .lit _ => 1
  | .nil => 1
  | .ptr d => uptoBulk d + 1
  | .slice elems spare => uptoBulkAll elems + uptoBulkAll spare + 1
  | .agg parts => uptoBulkAll parts + 1
  | .iface _ d => uptoBulk d + 1
  | .map entries => uptoBulkEntries entries + 1
  | .held _ => 1
def uptoBulkAll {H : Type} : List (DataW H) → Nat
  | [] => 0
  | d :: r => uptoBulk d + uptoBulkAll r
def uptoBulkEntries {H : Type} : List (Lit × DataW H) → Nat
  | [] => 0
  | x :: r => uptoBulkEntry x + uptoBulkEntries r
def uptoBulkEntry {H : Type} : Lit × DataW H → Nat
  | (.string bytes, d) => bytes.length + uptoBulk d + 1
  | (_, d) => uptoBulk d + 1
 end
def uptoSmall : (H : Type) → List (DataW H) → Bool := fun _ ds => decide (uptoBulkAll ds ≤ 1048576)
def OpenSpec.upto (s : _root_.Go.ChangeSpec) : _root_.Go.OpenSpec := { _root_.Go.OpenSpec.ofChange s with cond := some uptoSmall }

/-- 'reredoslaw10.PrintBack', WHERE WHAT IT READS IS OF BULK AT MOST 1048576: true; the input reads as it did. -/
def printBackUptoRow : OpenClaim := { program := "ytljkmdmbndjngaa", sum := "90b994dcb339f020c5aec58dc1bea148ed5f4149b6e12bb9022738a768f93a23", func := "reredos/reredoslaw10.PrintBack", spec := "printBack", inPlace := ["internal/bytealg.IndexByteString", "internal/bytealg.IndexString", "internal/abi.NoEscape", "internal/bytealg.MakeNoZero"], unfollowed := true, recurses := true, named := ["internal/bytealg.MaxLen"], apart := false, narrowed := true }
def PrintBackUptoSaid : Prop := printBackUptoRow.holds Try.pinned (OpenSpec.upto printBackSpec)

/-- 'reredoslaw10.PrintTwice', WHERE WHAT IT READS IS OF BULK AT MOST 1048576: true; the input reads as it did. -/
def printTwiceUptoRow : OpenClaim := { program := "ytljkmdmbndjngaa", sum := "90b994dcb339f020c5aec58dc1bea148ed5f4149b6e12bb9022738a768f93a23", func := "reredos/reredoslaw10.PrintTwice", spec := "printTwice", inPlace := ["internal/bytealg.IndexByteString", "internal/bytealg.IndexString", "internal/abi.NoEscape", "internal/bytealg.MakeNoZero"], unfollowed := true, recurses := true, named := ["internal/bytealg.MaxLen"], apart := false, narrowed := true }
def PrintTwiceUptoSaid : Prop := printTwiceUptoRow.holds Try.pinned (OpenSpec.upto printTwiceSpec)

/-- 'reredoslaw10.PrintOnes', WHERE WHAT IT READS IS OF BULK AT MOST 1048576: true; the input reads as it did. -/
def printOnesUptoRow : OpenClaim := { program := "ytljkmdmbndjngaa", sum := "90b994dcb339f020c5aec58dc1bea148ed5f4149b6e12bb9022738a768f93a23", func := "reredos/reredoslaw10.PrintOnes", spec := "printOnes", inPlace := ["internal/bytealg.IndexByteString", "internal/bytealg.IndexString", "internal/abi.NoEscape", "internal/bytealg.MakeNoZero"], unfollowed := true, recurses := true, named := ["internal/bytealg.MaxLen"], apart := false, narrowed := true }
def PrintOnesUptoSaid : Prop := printOnesUptoRow.holds Try.pinned (OpenSpec.upto printOnesSpec)

/-- 'reredoslaw10.PrintBlanks', WHERE WHAT IT READS IS OF BULK AT MOST 1048576: true; the input reads as it did. -/
def printBlanksUptoRow : OpenClaim := { program := "ytljkmdmbndjngaa", sum := "90b994dcb339f020c5aec58dc1bea148ed5f4149b6e12bb9022738a768f93a23", func := "reredos/reredoslaw10.PrintBlanks", spec := "printBlanks", inPlace := ["internal/bytealg.IndexByteString", "internal/bytealg.IndexString", "internal/abi.NoEscape", "internal/bytealg.MakeNoZero"], unfollowed := true, recurses := true, named := ["internal/bytealg.MaxLen"], apart := false, narrowed := true }
def PrintBlanksUptoSaid : Prop := printBlanksUptoRow.holds Try.pinned (OpenSpec.upto printBlanksSpec)

end Rows
end Go.Proofs.Ytljkmdmbndjngaa

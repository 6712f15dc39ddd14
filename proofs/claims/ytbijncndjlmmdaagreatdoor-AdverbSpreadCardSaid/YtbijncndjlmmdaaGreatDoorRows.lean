/-
  NARROWER THAN 'FOR EVERY INPUT', by the rows' own cells (each row's printed sentence says how): AdverbOnes: laid · AdverbScan: laid · AdverbSpread: laid · AdverbBack: laid · AdverbOuter: laid · AdverbNobody: laid · AdverbParts: laid.
  DERIVED. THE GIVEN ROWS OF THIS SEAT. 7 by the template 'for every input the law returns true; each argument reads behind the call as it read before'; 0 by the template 'total and deterministic' (their statements: YtbijncndjlmmdaaGreatDoorTotals.lean).
  GIVEN WITH THE SEED: the statements are not yours to turn. If you find one false, say at which input.
  Laid BY PROGRAM, IN A SANDBOX (cutbox-rows.mjs): the forced cells as the released guide's own fill.sh prints them over the translation d4ad54feae52bf37… (all of the seat's roots in one cut). By AI agents, Wed Nov 11 2026. No macro, syntax, notation, axiom, sorry.
-/
import Derived.Test.YtbijncndjlmmdaaGreatDoorChecked
import GoSem.Claim
import GoSem.ClaimJoined
import GoSem.ClaimMapViews
import Derived.JoinedTies
import Derived.KernelRfl
namespace Go.Proofs.YtbijncndjlmmdaaGreatDoor
/- THE CELL 'sum', in the pinned program and in every row, IS THE sha256 OF THE DUMP (.gsa) THAT YtbijncndjlmmdaaGreatDoorProg.lean LOADS. Nothing in Lean hashes anything: it is a label: what it is worth is what the hold of that sum in a sandbox is worth. -/
noncomputable def Tryz.pinned : Pinned := { name := "ytbijncndjlmmdaagreatdoor", sum := "d4ad54feae52bf37cf8edb03ff1a52710e781a63f020d24e581808d365b8f6a2", checked := Tryz.checked }
namespace Rows
def none {H : Type} : Left H := { results := [], args := [] }

/- WHAT THE LISTED PACKAGE-LEVEL VARIABLES READ AS WHEN THE CALL BEGINS. Each datum BY PROGRAM (the guide's laid-datum.mjs) off the statement by which the dump's own 'gosem.cut.vars' lays the variable. In a bare row this is a premise. The card (YtbijncndjlmmdaaGreatDoorCards.lean) ties it to the program's text. -/
def laid_math_bits_deBruijn32tab {H : Type} : DataW H := .agg [.lit (.int .u8 0), .lit (.int .u8 1), .lit (.int .u8 28), .lit (.int .u8 2), .lit (.int .u8 29), .lit (.int .u8 14), .lit (.int .u8 24), .lit (.int .u8 3), .lit (.int .u8 30), .lit (.int .u8 22), .lit (.int .u8 20), .lit (.int .u8 15), .lit (.int .u8 25), .lit (.int .u8 17), .lit (.int .u8 4), .lit (.int .u8 8), .lit (.int .u8 31), .lit (.int .u8 27), .lit (.int .u8 13), .lit (.int .u8 23), .lit (.int .u8 21), .lit (.int .u8 19), .lit (.int .u8 16), .lit (.int .u8 7), .lit (.int .u8 26), .lit (.int .u8 12), .lit (.int .u8 18), .lit (.int .u8 6), .lit (.int .u8 11), .lit (.int .u8 5), .lit (.int .u8 10), .lit (.int .u8 9)]
def laid_math_bits_deBruijn64tab {H : Type} : DataW H := .agg [.lit (.int .u8 0), .lit (.int .u8 1), .lit (.int .u8 56), .lit (.int .u8 2), .lit (.int .u8 57), .lit (.int .u8 49), .lit (.int .u8 28), .lit (.int .u8 3), .lit (.int .u8 61), .lit (.int .u8 58), .lit (.int .u8 42), .lit (.int .u8 50), .lit (.int .u8 38), .lit (.int .u8 29), .lit (.int .u8 17), .lit (.int .u8 4), .lit (.int .u8 62), .lit (.int .u8 47), .lit (.int .u8 59), .lit (.int .u8 36), .lit (.int .u8 45), .lit (.int .u8 43), .lit (.int .u8 51), .lit (.int .u8 22), .lit (.int .u8 53), .lit (.int .u8 39), .lit (.int .u8 33), .lit (.int .u8 30), .lit (.int .u8 24), .lit (.int .u8 18), .lit (.int .u8 12), .lit (.int .u8 5), .lit (.int .u8 63), .lit (.int .u8 55), .lit (.int .u8 48), .lit (.int .u8 27), .lit (.int .u8 60), .lit (.int .u8 41), .lit (.int .u8 37), .lit (.int .u8 16), .lit (.int .u8 46), .lit (.int .u8 35), .lit (.int .u8 44), .lit (.int .u8 21), .lit (.int .u8 52), .lit (.int .u8 32), .lit (.int .u8 23), .lit (.int .u8 11), .lit (.int .u8 54), .lit (.int .u8 26), .lit (.int .u8 40), .lit (.int .u8 15), .lit (.int .u8 34), .lit (.int .u8 20), .lit (.int .u8 31), .lit (.int .u8 10), .lit (.int .u8 25), .lit (.int .u8 14), .lit (.int .u8 19), .lit (.int .u8 9), .lit (.int .u8 13), .lit (.int .u8 8), .lit (.int .u8 7), .lit (.int .u8 6)]
def laid_internal_strconv_uint64pow10 {H : Type} : DataW H := .agg [.lit (.int .u64 1), .lit (.int .u64 10), .lit (.int .u64 100), .lit (.int .u64 1000), .lit (.int .u64 10000), .lit (.int .u64 100000), .lit (.int .u64 1000000), .lit (.int .u64 10000000), .lit (.int .u64 100000000), .lit (.int .u64 1000000000), .lit (.int .u64 10000000000), .lit (.int .u64 100000000000), .lit (.int .u64 1000000000000), .lit (.int .u64 10000000000000), .lit (.int .u64 100000000000000), .lit (.int .u64 1000000000000000), .lit (.int .u64 10000000000000000), .lit (.int .u64 100000000000000000), .lit (.int .u64 1000000000000000000), .lit (.int .u64 10000000000000000000)]
def laid_strconv_ErrRange {H : Type} : DataW H := .iface "*errors.errorString" (.ptr (.agg [.lit (.string [118, 97, 108, 117, 101, 32, 111, 117, 116, 32, 111, 102, 32, 114, 97, 110, 103, 101])]))
def laid_strconv_ErrSyntax {H : Type} : DataW H := .iface "*errors.errorString" (.ptr (.agg [.lit (.string [105, 110, 118, 97, 108, 105, 100, 32, 115, 121, 110, 116, 97, 120])]))
def laid_reredos_scalar_dyads {H : Type} : DataW H := .agg [.agg [.lit (.string [43]), .lit (.bool true), .lit (.string [48])], .agg [.lit (.string [45]), .lit (.bool true), .lit (.string [])], .agg [.lit (.string [42]), .lit (.bool true), .lit (.string [49])], .agg [.lit (.string [37]), .lit (.bool false), .lit (.string [])], .agg [.lit (.string [33]), .lit (.bool false), .lit (.string [])], .agg [.lit (.string [38]), .lit (.bool true), .lit (.string [])], .agg [.lit (.string [124]), .lit (.bool true), .lit (.string [])], .agg [.lit (.string [60]), .lit (.bool true), .lit (.string [])], .agg [.lit (.string [62]), .lit (.bool true), .lit (.string [])], .agg [.lit (.string [61]), .lit (.bool true), .lit (.string [])], .agg [.lit (.string [126]), .lit (.bool true), .lit (.string [])]]
def laid_reredos_scalar_monads {H : Type} : DataW H := .agg [.lit (.string [45]), .lit (.string [126]), .lit (.string [42])]

/-- 'reredoslaw17.AdverbOnes': WHATEVER THE INPUT: true; the input reads as it did. -/
def adverbOnesSpec : ChangeSpec := { name := "adverbOnes", fn := fun _ => fun
  | [d1, d2] => { results := [.lit (.bool true)], args := [d1, d2] }
  | _ => none }
def adverbOnesRow : OpenClaim := { program := "ytbijncndjlmmdaagreatdoor", sum := "d4ad54feae52bf37cf8edb03ff1a52710e781a63f020d24e581808d365b8f6a2", func := "reredos/reredoslaw17.AdverbOnes", spec := "adverbOnes", unfollowed := true, recurses := true, named := ["internal/strconv.uint64pow10", "math/bits.deBruijn32tab", "math/bits.deBruijn64tab"], apart := false, laid := [("math/bits.deBruijn32tab", laid_math_bits_deBruijn32tab), ("math/bits.deBruijn64tab", laid_math_bits_deBruijn64tab), ("internal/strconv.uint64pow10", laid_internal_strconv_uint64pow10)] }
def AdverbOnesSaid : Prop := adverbOnesRow.holds Tryz.pinned (OpenSpec.ofChange adverbOnesSpec)

/-- ITS FALSE NEIGHBOUR: 'it returns false'. Refute it at one input. -/
def adverbOnesWrong : ChangeSpec := { name := "adverbOnes", fn := fun _ => fun
  | [d1, d2] => { results := [.lit (.bool false)], args := [d1, d2] }
  | _ => none }
def AdverbOnesWrongFalsely : Prop := adverbOnesRow.holds Tryz.pinned (OpenSpec.ofChange adverbOnesWrong)

/-- 'reredoslaw17.AdverbScan': WHATEVER THE INPUT: true; the input reads as it did. -/
def adverbScanSpec : ChangeSpec := { name := "adverbScan", fn := fun _ => fun
  | [d1, d2] => { results := [.lit (.bool true)], args := [d1, d2] }
  | _ => none }
def adverbScanRow : OpenClaim := { program := "ytbijncndjlmmdaagreatdoor", sum := "d4ad54feae52bf37cf8edb03ff1a52710e781a63f020d24e581808d365b8f6a2", func := "reredos/reredoslaw17.AdverbScan", spec := "adverbScan", unfollowed := true, recurses := true, named := ["internal/strconv.uint64pow10", "math/bits.deBruijn32tab", "math/bits.deBruijn64tab"], apart := false, laid := [("math/bits.deBruijn32tab", laid_math_bits_deBruijn32tab), ("math/bits.deBruijn64tab", laid_math_bits_deBruijn64tab), ("internal/strconv.uint64pow10", laid_internal_strconv_uint64pow10)] }
def AdverbScanSaid : Prop := adverbScanRow.holds Tryz.pinned (OpenSpec.ofChange adverbScanSpec)

/-- ITS FALSE NEIGHBOUR: 'it returns false'. Refute it at one input. -/
def adverbScanWrong : ChangeSpec := { name := "adverbScan", fn := fun _ => fun
  | [d1, d2] => { results := [.lit (.bool false)], args := [d1, d2] }
  | _ => none }
def AdverbScanWrongFalsely : Prop := adverbScanRow.holds Tryz.pinned (OpenSpec.ofChange adverbScanWrong)

/-- 'reredoslaw17.AdverbSpread': WHATEVER THE INPUT: true; the input reads as it did. -/
def adverbSpreadSpec : ChangeSpec := { name := "adverbSpread", fn := fun _ => fun
  | [d1, d2, d3] => { results := [.lit (.bool true)], args := [d1, d2, d3] }
  | _ => none }
def adverbSpreadRow : OpenClaim := { program := "ytbijncndjlmmdaagreatdoor", sum := "d4ad54feae52bf37cf8edb03ff1a52710e781a63f020d24e581808d365b8f6a2", func := "reredos/reredoslaw17.AdverbSpread", spec := "adverbSpread", inPlace := ["slices.overlaps[int]", "internal/bytealg.IndexByteString", "internal/bytealg.IndexString"], unfollowed := true, recurses := true, named := ["internal/strconv.uint64pow10", "math/bits.deBruijn32tab", "math/bits.deBruijn64tab", "strconv.ErrSyntax", "strconv.ErrRange", "reredos/scalar.dyads", "internal/bytealg.MaxLen", "reredos/scalar.monads"], apart := false, laid := [("math/bits.deBruijn32tab", laid_math_bits_deBruijn32tab), ("math/bits.deBruijn64tab", laid_math_bits_deBruijn64tab), ("internal/strconv.uint64pow10", laid_internal_strconv_uint64pow10), ("strconv.ErrRange", laid_strconv_ErrRange), ("strconv.ErrSyntax", laid_strconv_ErrSyntax), ("reredos/scalar.dyads", laid_reredos_scalar_dyads), ("reredos/scalar.monads", laid_reredos_scalar_monads)] }
def AdverbSpreadSaid : Prop := adverbSpreadRow.holds Tryz.pinned (OpenSpec.ofChange adverbSpreadSpec)

/-- ITS FALSE NEIGHBOUR: 'it returns false'. Refute it at one input. -/
def adverbSpreadWrong : ChangeSpec := { name := "adverbSpread", fn := fun _ => fun
  | [d1, d2, d3] => { results := [.lit (.bool false)], args := [d1, d2, d3] }
  | _ => none }
def AdverbSpreadWrongFalsely : Prop := adverbSpreadRow.holds Tryz.pinned (OpenSpec.ofChange adverbSpreadWrong)

/-- 'reredoslaw17.AdverbBack': WHATEVER THE INPUT: true; the input reads as it did. -/
def adverbBackSpec : ChangeSpec := { name := "adverbBack", fn := fun _ => fun
  | [d] => { results := [.lit (.bool true)], args := [d] }
  | _ => none }
def adverbBackRow : OpenClaim := { program := "ytbijncndjlmmdaagreatdoor", sum := "d4ad54feae52bf37cf8edb03ff1a52710e781a63f020d24e581808d365b8f6a2", func := "reredos/reredoslaw17.AdverbBack", spec := "adverbBack", unfollowed := true, recurses := true, named := ["internal/strconv.uint64pow10", "math/bits.deBruijn32tab", "math/bits.deBruijn64tab"], apart := false, laid := [("math/bits.deBruijn32tab", laid_math_bits_deBruijn32tab), ("math/bits.deBruijn64tab", laid_math_bits_deBruijn64tab), ("internal/strconv.uint64pow10", laid_internal_strconv_uint64pow10)] }
def AdverbBackSaid : Prop := adverbBackRow.holds Tryz.pinned (OpenSpec.ofChange adverbBackSpec)

/-- ITS FALSE NEIGHBOUR: 'it returns false'. Refute it at one input. -/
def adverbBackWrong : ChangeSpec := { name := "adverbBack", fn := fun _ => fun
  | [d] => { results := [.lit (.bool false)], args := [d] }
  | _ => none }
def AdverbBackWrongFalsely : Prop := adverbBackRow.holds Tryz.pinned (OpenSpec.ofChange adverbBackWrong)

/-- 'reredoslaw17.AdverbOuter': WHATEVER THE INPUT: true; the input reads as it did. -/
def adverbOuterSpec : ChangeSpec := { name := "adverbOuter", fn := fun _ => fun
  | [d1, d2, d3] => { results := [.lit (.bool true)], args := [d1, d2, d3] }
  | _ => none }
def adverbOuterRow : OpenClaim := { program := "ytbijncndjlmmdaagreatdoor", sum := "d4ad54feae52bf37cf8edb03ff1a52710e781a63f020d24e581808d365b8f6a2", func := "reredos/reredoslaw17.AdverbOuter", spec := "adverbOuter", inPlace := ["slices.overlaps[int]", "internal/bytealg.IndexByteString", "internal/bytealg.IndexString"], unfollowed := true, recurses := true, named := ["internal/strconv.uint64pow10", "math/bits.deBruijn32tab", "math/bits.deBruijn64tab", "strconv.ErrSyntax", "strconv.ErrRange", "reredos/scalar.dyads", "internal/bytealg.MaxLen"], apart := false, laid := [("math/bits.deBruijn32tab", laid_math_bits_deBruijn32tab), ("math/bits.deBruijn64tab", laid_math_bits_deBruijn64tab), ("internal/strconv.uint64pow10", laid_internal_strconv_uint64pow10), ("strconv.ErrRange", laid_strconv_ErrRange), ("strconv.ErrSyntax", laid_strconv_ErrSyntax), ("reredos/scalar.dyads", laid_reredos_scalar_dyads)] }
def AdverbOuterSaid : Prop := adverbOuterRow.holds Tryz.pinned (OpenSpec.ofChange adverbOuterSpec)

/-- ITS FALSE NEIGHBOUR: 'it returns false'. Refute it at one input. -/
def adverbOuterWrong : ChangeSpec := { name := "adverbOuter", fn := fun _ => fun
  | [d1, d2, d3] => { results := [.lit (.bool false)], args := [d1, d2, d3] }
  | _ => none }
def AdverbOuterWrongFalsely : Prop := adverbOuterRow.holds Tryz.pinned (OpenSpec.ofChange adverbOuterWrong)

/-- 'reredoslaw17.AdverbNobody': WHATEVER THE INPUT: true; the input reads as it did. -/
def adverbNobodySpec : ChangeSpec := { name := "adverbNobody", fn := fun _ => fun
  | [d1, d2] => { results := [.lit (.bool true)], args := [d1, d2] }
  | _ => none }
def adverbNobodyRow : OpenClaim := { program := "ytbijncndjlmmdaagreatdoor", sum := "d4ad54feae52bf37cf8edb03ff1a52710e781a63f020d24e581808d365b8f6a2", func := "reredos/reredoslaw17.AdverbNobody", spec := "adverbNobody", unfollowed := true, recurses := true, named := ["internal/strconv.uint64pow10", "math/bits.deBruijn32tab", "math/bits.deBruijn64tab"], apart := false, laid := [("math/bits.deBruijn32tab", laid_math_bits_deBruijn32tab), ("math/bits.deBruijn64tab", laid_math_bits_deBruijn64tab), ("internal/strconv.uint64pow10", laid_internal_strconv_uint64pow10)] }
def AdverbNobodySaid : Prop := adverbNobodyRow.holds Tryz.pinned (OpenSpec.ofChange adverbNobodySpec)

/-- ITS FALSE NEIGHBOUR: 'it returns false'. Refute it at one input. -/
def adverbNobodyWrong : ChangeSpec := { name := "adverbNobody", fn := fun _ => fun
  | [d1, d2] => { results := [.lit (.bool false)], args := [d1, d2] }
  | _ => none }
def AdverbNobodyWrongFalsely : Prop := adverbNobodyRow.holds Tryz.pinned (OpenSpec.ofChange adverbNobodyWrong)

/-- 'reredoslaw17.AdverbParts': WHATEVER THE INPUT: true; the input reads as it did. -/
def adverbPartsSpec : ChangeSpec := { name := "adverbParts", fn := fun _ => fun
  | [d1, d2, d3] => { results := [.lit (.bool true)], args := [d1, d2, d3] }
  | _ => none }
def adverbPartsRow : OpenClaim := { program := "ytbijncndjlmmdaagreatdoor", sum := "d4ad54feae52bf37cf8edb03ff1a52710e781a63f020d24e581808d365b8f6a2", func := "reredos/reredoslaw17.AdverbParts", spec := "adverbParts", inPlace := ["slices.overlaps[int]", "internal/bytealg.IndexByteString", "internal/bytealg.IndexString"], unfollowed := true, recurses := true, named := ["internal/strconv.uint64pow10", "math/bits.deBruijn32tab", "math/bits.deBruijn64tab", "strconv.ErrSyntax", "strconv.ErrRange", "reredos/scalar.dyads", "internal/bytealg.MaxLen"], apart := false, laid := [("math/bits.deBruijn32tab", laid_math_bits_deBruijn32tab), ("math/bits.deBruijn64tab", laid_math_bits_deBruijn64tab), ("internal/strconv.uint64pow10", laid_internal_strconv_uint64pow10), ("strconv.ErrRange", laid_strconv_ErrRange), ("strconv.ErrSyntax", laid_strconv_ErrSyntax), ("reredos/scalar.dyads", laid_reredos_scalar_dyads)] }
def AdverbPartsSaid : Prop := adverbPartsRow.holds Tryz.pinned (OpenSpec.ofChange adverbPartsSpec)

/-- ITS FALSE NEIGHBOUR: 'it returns false'. Refute it at one input. -/
def adverbPartsWrong : ChangeSpec := { name := "adverbParts", fn := fun _ => fun
  | [d1, d2, d3] => { results := [.lit (.bool false)], args := [d1, d2, d3] }
  | _ => none }
def AdverbPartsWrongFalsely : Prop := adverbPartsRow.holds Tryz.pinned (OpenSpec.ofChange adverbPartsWrong)

/- THE SECOND FORM. 'bulk': how many values and letters a reading holds, each counted each time it is reached (what is shared counts as often as it is met; a slice's spare places count too). A statement '..UptoSaid' is the law's where the arguments, and the package variables that the reading takes, are together of bulk at most 1048576: NARROWER than '..Said'. Prove '..Said' where nothing that the law and all that it calls make is longer than what came in: it says more and counts as full. Else prove '..UptoSaid'. A law counts once. -/
mutual
def uptoBulk {H : Type} : DataW H → Nat
  | .lit (.string bytes) => bytes.length + 1
  | .lit _ => 1
  | .nil => 1
  | .ptr d => uptoBulk d + 1
  | .slice elems spare => uptoBulkAll elems + uptoBulkAll spare + 1
  | .agg parts => uptoBulkAll parts + 1
  | .iface _ d => uptoBulk d + 1
  | .map entries => uptoBulkEntries entries + 1
  | .held _ => 1
def uptoBulkAll {H : Type} : List (DataW H) → Nat
  | [] => 0
  | d :: r => uptoBulk d + uptoBulkAll r
def uptoBulkEntries {H : Type} : List (Lit × DataW H) → Nat
  | [] => 0
  | x :: r => uptoBulkEntry x + uptoBulkEntries r
def uptoBulkEntry {H : Type} : Lit × DataW H → Nat
  | (.string bytes, d) => bytes.length + uptoBulk d + 1
  | (_, d) => uptoBulk d + 1
 end
def uptoSmall : (H : Type) → List (DataW H) → Bool := fun _ ds => decide (uptoBulkAll ds ≤ 1048576)
def OpenSpec.upto (s : _root_.Go.ChangeSpec) : _root_.Go.OpenSpec := { _root_.Go.OpenSpec.ofChange s with cond := some uptoSmall }

/-- 'reredoslaw17.AdverbOnes', WHERE WHAT IT READS IS OF BULK AT MOST 1048576: true; the input reads as it did. -/
def adverbOnesUptoRow : OpenClaim := { program := "ytbijncndjlmmdaagreatdoor", sum := "d4ad54feae52bf37cf8edb03ff1a52710e781a63f020d24e581808d365b8f6a2", func := "reredos/reredoslaw17.AdverbOnes", spec := "adverbOnes", unfollowed := true, recurses := true, named := ["internal/strconv.uint64pow10", "math/bits.deBruijn32tab", "math/bits.deBruijn64tab"], apart := false, laid := [("math/bits.deBruijn32tab", laid_math_bits_deBruijn32tab), ("math/bits.deBruijn64tab", laid_math_bits_deBruijn64tab), ("internal/strconv.uint64pow10", laid_internal_strconv_uint64pow10)], narrowed := true }
def AdverbOnesUptoSaid : Prop := adverbOnesUptoRow.holds Tryz.pinned (OpenSpec.upto adverbOnesSpec)

/-- 'reredoslaw17.AdverbScan', WHERE WHAT IT READS IS OF BULK AT MOST 1048576: true; the input reads as it did. -/
def adverbScanUptoRow : OpenClaim := { program := "ytbijncndjlmmdaagreatdoor", sum := "d4ad54feae52bf37cf8edb03ff1a52710e781a63f020d24e581808d365b8f6a2", func := "reredos/reredoslaw17.AdverbScan", spec := "adverbScan", unfollowed := true, recurses := true, named := ["internal/strconv.uint64pow10", "math/bits.deBruijn32tab", "math/bits.deBruijn64tab"], apart := false, laid := [("math/bits.deBruijn32tab", laid_math_bits_deBruijn32tab), ("math/bits.deBruijn64tab", laid_math_bits_deBruijn64tab), ("internal/strconv.uint64pow10", laid_internal_strconv_uint64pow10)], narrowed := true }
def AdverbScanUptoSaid : Prop := adverbScanUptoRow.holds Tryz.pinned (OpenSpec.upto adverbScanSpec)

/-- 'reredoslaw17.AdverbSpread', WHERE WHAT IT READS IS OF BULK AT MOST 1048576: true; the input reads as it did. -/
def adverbSpreadUptoRow : OpenClaim := { program := "ytbijncndjlmmdaagreatdoor", sum := "d4ad54feae52bf37cf8edb03ff1a52710e781a63f020d24e581808d365b8f6a2", func := "reredos/reredoslaw17.AdverbSpread", spec := "adverbSpread", inPlace := ["slices.overlaps[int]", "internal/bytealg.IndexByteString", "internal/bytealg.IndexString"], unfollowed := true, recurses := true, named := ["internal/strconv.uint64pow10", "math/bits.deBruijn32tab", "math/bits.deBruijn64tab", "strconv.ErrSyntax", "strconv.ErrRange", "reredos/scalar.dyads", "internal/bytealg.MaxLen", "reredos/scalar.monads"], apart := false, laid := [("math/bits.deBruijn32tab", laid_math_bits_deBruijn32tab), ("math/bits.deBruijn64tab", laid_math_bits_deBruijn64tab), ("internal/strconv.uint64pow10", laid_internal_strconv_uint64pow10), ("strconv.ErrRange", laid_strconv_ErrRange), ("strconv.ErrSyntax", laid_strconv_ErrSyntax), ("reredos/scalar.dyads", laid_reredos_scalar_dyads), ("reredos/scalar.monads", laid_reredos_scalar_monads)], narrowed := true }
def AdverbSpreadUptoSaid : Prop := adverbSpreadUptoRow.holds Tryz.pinned (OpenSpec.upto adverbSpreadSpec)

/-- 'reredoslaw17.AdverbBack', WHERE WHAT IT READS IS OF BULK AT MOST 1048576: true; the input reads as it did. -/
def adverbBackUptoRow : OpenClaim := { program := "ytbijncndjlmmdaagreatdoor", sum := "d4ad54feae52bf37cf8edb03ff1a52710e781a63f020d24e581808d365b8f6a2", func := "reredos/reredoslaw17.AdverbBack", spec := "adverbBack", unfollowed := true, recurses := true, named := ["internal/strconv.uint64pow10", "math/bits.deBruijn32tab", "math/bits.deBruijn64tab"], apart := false, laid := [("math/bits.deBruijn32tab", laid_math_bits_deBruijn32tab), ("math/bits.deBruijn64tab", laid_math_bits_deBruijn64tab), ("internal/strconv.uint64pow10", laid_internal_strconv_uint64pow10)], narrowed := true }
def AdverbBackUptoSaid : Prop := adverbBackUptoRow.holds Tryz.pinned (OpenSpec.upto adverbBackSpec)

/-- 'reredoslaw17.AdverbOuter', WHERE WHAT IT READS IS OF BULK AT MOST 1048576: true; the input reads as it did. -/
def adverbOuterUptoRow : OpenClaim := { program := "ytbijncndjlmmdaagreatdoor", sum := "d4ad54feae52bf37cf8edb03ff1a52710e781a63f020d24e581808d365b8f6a2", func := "reredos/reredoslaw17.AdverbOuter", spec := "adverbOuter", inPlace := ["slices.overlaps[int]", "internal/bytealg.IndexByteString", "internal/bytealg.IndexString"], unfollowed := true, recurses := true, named := ["internal/strconv.uint64pow10", "math/bits.deBruijn32tab", "math/bits.deBruijn64tab", "strconv.ErrSyntax", "strconv.ErrRange", "reredos/scalar.dyads", "internal/bytealg.MaxLen"], apart := false, laid := [("math/bits.deBruijn32tab", laid_math_bits_deBruijn32tab), ("math/bits.deBruijn64tab", laid_math_bits_deBruijn64tab), ("internal/strconv.uint64pow10", laid_internal_strconv_uint64pow10), ("strconv.ErrRange", laid_strconv_ErrRange), ("strconv.ErrSyntax", laid_strconv_ErrSyntax), ("reredos/scalar.dyads", laid_reredos_scalar_dyads)], narrowed := true }
def AdverbOuterUptoSaid : Prop := adverbOuterUptoRow.holds Tryz.pinned (OpenSpec.upto adverbOuterSpec)

/-- 'reredoslaw17.AdverbNobody', WHERE WHAT IT READS IS OF BULK AT MOST 1048576: true; the input reads as it did. -/
def adverbNobodyUptoRow : OpenClaim := { program := "ytbijncndjlmmdaagreatdoor", sum := "d4ad54feae52bf37cf8edb03ff1a52710e781a63f020d24e581808d365b8f6a2", func := "reredos/reredoslaw17.AdverbNobody", spec := "adverbNobody", unfollowed := true, recurses := true, named := ["internal/strconv.uint64pow10", "math/bits.deBruijn32tab", "math/bits.deBruijn64tab"], apart := false, laid := [("math/bits.deBruijn32tab", laid_math_bits_deBruijn32tab), ("math/bits.deBruijn64tab", laid_math_bits_deBruijn64tab), ("internal/strconv.uint64pow10", laid_internal_strconv_uint64pow10)], narrowed := true }
def AdverbNobodyUptoSaid : Prop := adverbNobodyUptoRow.holds Tryz.pinned (OpenSpec.upto adverbNobodySpec)

/-- 'reredoslaw17.AdverbParts', WHERE WHAT IT READS IS OF BULK AT MOST 1048576: true; the input reads as it did. -/
def adverbPartsUptoRow : OpenClaim := { program := "ytbijncndjlmmdaagreatdoor", sum := "d4ad54feae52bf37cf8edb03ff1a52710e781a63f020d24e581808d365b8f6a2", func := "reredos/reredoslaw17.AdverbParts", spec := "adverbParts", inPlace := ["slices.overlaps[int]", "internal/bytealg.IndexByteString", "internal/bytealg.IndexString"], unfollowed := true, recurses := true, named := ["internal/strconv.uint64pow10", "math/bits.deBruijn32tab", "math/bits.deBruijn64tab", "strconv.ErrSyntax", "strconv.ErrRange", "reredos/scalar.dyads", "internal/bytealg.MaxLen"], apart := false, laid := [("math/bits.deBruijn32tab", laid_math_bits_deBruijn32tab), ("math/bits.deBruijn64tab", laid_math_bits_deBruijn64tab), ("internal/strconv.uint64pow10", laid_internal_strconv_uint64pow10), ("strconv.ErrRange", laid_strconv_ErrRange), ("strconv.ErrSyntax", laid_strconv_ErrSyntax), ("reredos/scalar.dyads", laid_reredos_scalar_dyads)], narrowed := true }
def AdverbPartsUptoSaid : Prop := adverbPartsUptoRow.holds Tryz.pinned (OpenSpec.upto adverbPartsSpec)

end Rows
end Go.Proofs.YtbijncndjlmmdaaGreatDoor

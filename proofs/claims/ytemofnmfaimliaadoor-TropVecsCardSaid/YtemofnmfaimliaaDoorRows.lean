/-
  NARROWER THAN 'FOR EVERY INPUT', by the rows' own cells (each row's printed sentence says how): TropSums: laid · TropLeast: laid · TropVecs: laid · TropTexts: laid · TropKnown: laid · TropRows: laid · TropOwn: laid.
  DERIVED. THE GIVEN ROWS OF THIS SEAT. 7 by the template 'for every input the law returns true; each argument reads behind the call as it read before'; 0 by the template 'total and deterministic' (their statements: YtemofnmfaimliaaDoorTotals.lean).
  GIVEN WITH THE SEED: the statements are not yours to turn. If you find one false, say at which input.
  Laid BY PROGRAM, IN A SANDBOX (cutbox-rows.mjs): the forced cells as the released guide's own fill.sh prints them over the translation 6d0cee4726b26b1d… (all of the seat's roots in one cut). By AI agents, Wed Nov 11 2026. No macro, syntax, notation, axiom, sorry.
-/
import Derived.Test.YtemofnmfaimliaaDoorChecked
import GoSem.Claim
import GoSem.ClaimJoined
import GoSem.ClaimMapViews
import Derived.JoinedTies
import Derived.KernelRfl
namespace Go.Proofs.YtemofnmfaimliaaDoor
/- THE CELL 'sum', in the pinned program and in every row, IS THE sha256 OF THE DUMP (.gsa) THAT YtemofnmfaimliaaDoorProg.lean LOADS. Nothing in Lean hashes anything: it is a label: what it is worth is what the hold of that sum in a sandbox is worth. -/
noncomputable def Tryd.pinned : Pinned := { name := "ytemofnmfaimliaadoor", sum := "6d0cee4726b26b1d96d8bf336baf41de540929130d9360ea5fca6dcc82595c3c", checked := Tryd.checked }
namespace Rows
def none {H : Type} : Left H := { results := [], args := [] }

/- WHAT THE LISTED PACKAGE-LEVEL VARIABLES READ AS WHEN THE CALL BEGINS. Each datum BY PROGRAM (the guide's laid-datum.mjs) off the statement by which the dump's own 'gosem.cut.vars' lays the variable. In a bare row this is a premise. The card (YtemofnmfaimliaaDoorCards.lean) ties it to the program's text. -/
def laid_math_bits_deBruijn32tab {H : Type} : DataW H := .agg [.lit (.int .u8 0), .lit (.int .u8 1), .lit (.int .u8 28), .lit (.int .u8 2), .lit (.int .u8 29), .lit (.int .u8 14), .lit (.int .u8 24), .lit (.int .u8 3), .lit (.int .u8 30), .lit (.int .u8 22), .lit (.int .u8 20), .lit (.int .u8 15), .lit (.int .u8 25), .lit (.int .u8 17), .lit (.int .u8 4), .lit (.int .u8 8), .lit (.int .u8 31), .lit (.int .u8 27), .lit (.int .u8 13), .lit (.int .u8 23), .lit (.int .u8 21), .lit (.int .u8 19), .lit (.int .u8 16), .lit (.int .u8 7), .lit (.int .u8 26), .lit (.int .u8 12), .lit (.int .u8 18), .lit (.int .u8 6), .lit (.int .u8 11), .lit (.int .u8 5), .lit (.int .u8 10), .lit (.int .u8 9)]
def laid_math_bits_deBruijn64tab {H : Type} : DataW H := .agg [.lit (.int .u8 0), .lit (.int .u8 1), .lit (.int .u8 56), .lit (.int .u8 2), .lit (.int .u8 57), .lit (.int .u8 49), .lit (.int .u8 28), .lit (.int .u8 3), .lit (.int .u8 61), .lit (.int .u8 58), .lit (.int .u8 42), .lit (.int .u8 50), .lit (.int .u8 38), .lit (.int .u8 29), .lit (.int .u8 17), .lit (.int .u8 4), .lit (.int .u8 62), .lit (.int .u8 47), .lit (.int .u8 59), .lit (.int .u8 36), .lit (.int .u8 45), .lit (.int .u8 43), .lit (.int .u8 51), .lit (.int .u8 22), .lit (.int .u8 53), .lit (.int .u8 39), .lit (.int .u8 33), .lit (.int .u8 30), .lit (.int .u8 24), .lit (.int .u8 18), .lit (.int .u8 12), .lit (.int .u8 5), .lit (.int .u8 63), .lit (.int .u8 55), .lit (.int .u8 48), .lit (.int .u8 27), .lit (.int .u8 60), .lit (.int .u8 41), .lit (.int .u8 37), .lit (.int .u8 16), .lit (.int .u8 46), .lit (.int .u8 35), .lit (.int .u8 44), .lit (.int .u8 21), .lit (.int .u8 52), .lit (.int .u8 32), .lit (.int .u8 23), .lit (.int .u8 11), .lit (.int .u8 54), .lit (.int .u8 26), .lit (.int .u8 40), .lit (.int .u8 15), .lit (.int .u8 34), .lit (.int .u8 20), .lit (.int .u8 31), .lit (.int .u8 10), .lit (.int .u8 25), .lit (.int .u8 14), .lit (.int .u8 19), .lit (.int .u8 9), .lit (.int .u8 13), .lit (.int .u8 8), .lit (.int .u8 7), .lit (.int .u8 6)]
def laid_internal_strconv_uint64pow10 {H : Type} : DataW H := .agg [.lit (.int .u64 1), .lit (.int .u64 10), .lit (.int .u64 100), .lit (.int .u64 1000), .lit (.int .u64 10000), .lit (.int .u64 100000), .lit (.int .u64 1000000), .lit (.int .u64 10000000), .lit (.int .u64 100000000), .lit (.int .u64 1000000000), .lit (.int .u64 10000000000), .lit (.int .u64 100000000000), .lit (.int .u64 1000000000000), .lit (.int .u64 10000000000000), .lit (.int .u64 100000000000000), .lit (.int .u64 1000000000000000), .lit (.int .u64 10000000000000000), .lit (.int .u64 100000000000000000), .lit (.int .u64 1000000000000000000), .lit (.int .u64 10000000000000000000)]

/-- 'hyphenlaw1.TropSums': WHATEVER THE INPUT: true; the input reads as it did. -/
def tropSumsSpec : ChangeSpec := { name := "tropSums", fn := fun _ => fun
  | [d1, d2, d3] => { results := [.lit (.bool true)], args := [d1, d2, d3] }
  | _ => none }
def tropSumsRow : OpenClaim := { program := "ytemofnmfaimliaadoor", sum := "6d0cee4726b26b1d96d8bf336baf41de540929130d9360ea5fca6dcc82595c3c", func := "hyphen/hyphenlaw1.TropSums", spec := "tropSums", inPlace := ["internal/abi.NoEscape", "internal/bytealg.MakeNoZero"], named := ["internal/strconv.uint64pow10", "math/bits.deBruijn32tab", "math/bits.deBruijn64tab"], apart := false, laid := [("math/bits.deBruijn32tab", laid_math_bits_deBruijn32tab), ("math/bits.deBruijn64tab", laid_math_bits_deBruijn64tab), ("internal/strconv.uint64pow10", laid_internal_strconv_uint64pow10)] }
def TropSumsSaid : Prop := tropSumsRow.holds Tryd.pinned (OpenSpec.ofChange tropSumsSpec)

/-- ITS FALSE NEIGHBOUR: 'it returns false'. Refute it at one input. -/
def tropSumsWrong : ChangeSpec := { name := "tropSums", fn := fun _ => fun
  | [d1, d2, d3] => { results := [.lit (.bool false)], args := [d1, d2, d3] }
  | _ => none }
def TropSumsWrongFalsely : Prop := tropSumsRow.holds Tryd.pinned (OpenSpec.ofChange tropSumsWrong)

/-- 'hyphenlaw1.TropLeast': WHATEVER THE INPUT: true; the input reads as it did. -/
def tropLeastSpec : ChangeSpec := { name := "tropLeast", fn := fun _ => fun
  | [d1, d2] => { results := [.lit (.bool true)], args := [d1, d2] }
  | _ => none }
def tropLeastRow : OpenClaim := { program := "ytemofnmfaimliaadoor", sum := "6d0cee4726b26b1d96d8bf336baf41de540929130d9360ea5fca6dcc82595c3c", func := "hyphen/hyphenlaw1.TropLeast", spec := "tropLeast", inPlace := ["internal/abi.NoEscape", "internal/bytealg.MakeNoZero"], named := ["internal/strconv.uint64pow10", "math/bits.deBruijn32tab", "math/bits.deBruijn64tab"], apart := false, laid := [("math/bits.deBruijn32tab", laid_math_bits_deBruijn32tab), ("math/bits.deBruijn64tab", laid_math_bits_deBruijn64tab), ("internal/strconv.uint64pow10", laid_internal_strconv_uint64pow10)] }
def TropLeastSaid : Prop := tropLeastRow.holds Tryd.pinned (OpenSpec.ofChange tropLeastSpec)

/-- ITS FALSE NEIGHBOUR: 'it returns false'. Refute it at one input. -/
def tropLeastWrong : ChangeSpec := { name := "tropLeast", fn := fun _ => fun
  | [d1, d2] => { results := [.lit (.bool false)], args := [d1, d2] }
  | _ => none }
def TropLeastWrongFalsely : Prop := tropLeastRow.holds Tryd.pinned (OpenSpec.ofChange tropLeastWrong)

/-- 'hyphenlaw1.TropVecs': WHATEVER THE INPUT: true; the input reads as it did. -/
def tropVecsSpec : ChangeSpec := { name := "tropVecs", fn := fun _ => fun
  | [d1, d2, d3, d4, d5, d6, d7] => { results := [.lit (.bool true)], args := [d1, d2, d3, d4, d5, d6, d7] }
  | _ => none }
def tropVecsRow : OpenClaim := { program := "ytemofnmfaimliaadoor", sum := "6d0cee4726b26b1d96d8bf336baf41de540929130d9360ea5fca6dcc82595c3c", func := "hyphen/hyphenlaw1.TropVecs", spec := "tropVecs", inPlace := ["internal/abi.NoEscape", "internal/bytealg.MakeNoZero"], named := ["internal/strconv.uint64pow10", "math/bits.deBruijn32tab", "math/bits.deBruijn64tab"], apart := false, laid := [("math/bits.deBruijn32tab", laid_math_bits_deBruijn32tab), ("math/bits.deBruijn64tab", laid_math_bits_deBruijn64tab), ("internal/strconv.uint64pow10", laid_internal_strconv_uint64pow10)] }
def TropVecsSaid : Prop := tropVecsRow.holds Tryd.pinned (OpenSpec.ofChange tropVecsSpec)

/-- ITS FALSE NEIGHBOUR: 'it returns false'. Refute it at one input. -/
def tropVecsWrong : ChangeSpec := { name := "tropVecs", fn := fun _ => fun
  | [d1, d2, d3, d4, d5, d6, d7] => { results := [.lit (.bool false)], args := [d1, d2, d3, d4, d5, d6, d7] }
  | _ => none }
def TropVecsWrongFalsely : Prop := tropVecsRow.holds Tryd.pinned (OpenSpec.ofChange tropVecsWrong)

/-- 'hyphenlaw1.TropTexts': WHATEVER THE INPUT: true; the input reads as it did. -/
def tropTextsSpec : ChangeSpec := { name := "tropTexts", fn := fun _ => fun
  | [d1, d2, d3, d4, d5, d6] => { results := [.lit (.bool true)], args := [d1, d2, d3, d4, d5, d6] }
  | _ => none }
def tropTextsRow : OpenClaim := { program := "ytemofnmfaimliaadoor", sum := "6d0cee4726b26b1d96d8bf336baf41de540929130d9360ea5fca6dcc82595c3c", func := "hyphen/hyphenlaw1.TropTexts", spec := "tropTexts", inPlace := ["internal/abi.NoEscape", "internal/bytealg.MakeNoZero"], recurses := true, named := ["internal/strconv.uint64pow10", "math/bits.deBruijn32tab", "math/bits.deBruijn64tab"], apart := false, laid := [("math/bits.deBruijn32tab", laid_math_bits_deBruijn32tab), ("math/bits.deBruijn64tab", laid_math_bits_deBruijn64tab), ("internal/strconv.uint64pow10", laid_internal_strconv_uint64pow10)] }
def TropTextsSaid : Prop := tropTextsRow.holds Tryd.pinned (OpenSpec.ofChange tropTextsSpec)

/-- ITS FALSE NEIGHBOUR: 'it returns false'. Refute it at one input. -/
def tropTextsWrong : ChangeSpec := { name := "tropTexts", fn := fun _ => fun
  | [d1, d2, d3, d4, d5, d6] => { results := [.lit (.bool false)], args := [d1, d2, d3, d4, d5, d6] }
  | _ => none }
def TropTextsWrongFalsely : Prop := tropTextsRow.holds Tryd.pinned (OpenSpec.ofChange tropTextsWrong)

/-- 'hyphenlaw1.TropKnown': WHATEVER THE INPUT: true; the input reads as it did. -/
def tropKnownSpec : ChangeSpec := { name := "tropKnown", fn := fun _ => fun
  | [d] => { results := [.lit (.bool true)], args := [d] }
  | _ => none }
def tropKnownRow : OpenClaim := { program := "ytemofnmfaimliaadoor", sum := "6d0cee4726b26b1d96d8bf336baf41de540929130d9360ea5fca6dcc82595c3c", func := "hyphen/hyphenlaw1.TropKnown", spec := "tropKnown", inPlace := ["internal/abi.NoEscape", "internal/bytealg.MakeNoZero"], named := ["internal/strconv.uint64pow10", "math/bits.deBruijn32tab", "math/bits.deBruijn64tab"], apart := false, laid := [("math/bits.deBruijn32tab", laid_math_bits_deBruijn32tab), ("math/bits.deBruijn64tab", laid_math_bits_deBruijn64tab), ("internal/strconv.uint64pow10", laid_internal_strconv_uint64pow10)] }
def TropKnownSaid : Prop := tropKnownRow.holds Tryd.pinned (OpenSpec.ofChange tropKnownSpec)

/-- ITS FALSE NEIGHBOUR: 'it returns false'. Refute it at one input. -/
def tropKnownWrong : ChangeSpec := { name := "tropKnown", fn := fun _ => fun
  | [d] => { results := [.lit (.bool false)], args := [d] }
  | _ => none }
def TropKnownWrongFalsely : Prop := tropKnownRow.holds Tryd.pinned (OpenSpec.ofChange tropKnownWrong)

/-- 'hyphenlaw1.TropRows': WHATEVER THE INPUT: true; the input reads as it did. -/
def tropRowsSpec : ChangeSpec := { name := "tropRows", fn := fun _ => fun
  | [d1, d2] => { results := [.lit (.bool true)], args := [d1, d2] }
  | _ => none }
def tropRowsRow : OpenClaim := { program := "ytemofnmfaimliaadoor", sum := "6d0cee4726b26b1d96d8bf336baf41de540929130d9360ea5fca6dcc82595c3c", func := "hyphen/hyphenlaw1.TropRows", spec := "tropRows", inPlace := ["internal/abi.NoEscape", "internal/bytealg.MakeNoZero"], named := ["internal/strconv.uint64pow10", "math/bits.deBruijn32tab", "math/bits.deBruijn64tab"], apart := false, laid := [("math/bits.deBruijn32tab", laid_math_bits_deBruijn32tab), ("math/bits.deBruijn64tab", laid_math_bits_deBruijn64tab), ("internal/strconv.uint64pow10", laid_internal_strconv_uint64pow10)] }
def TropRowsSaid : Prop := tropRowsRow.holds Tryd.pinned (OpenSpec.ofChange tropRowsSpec)

/-- ITS FALSE NEIGHBOUR: 'it returns false'. Refute it at one input. -/
def tropRowsWrong : ChangeSpec := { name := "tropRows", fn := fun _ => fun
  | [d1, d2] => { results := [.lit (.bool false)], args := [d1, d2] }
  | _ => none }
def TropRowsWrongFalsely : Prop := tropRowsRow.holds Tryd.pinned (OpenSpec.ofChange tropRowsWrong)

/-- 'hyphenlaw1.TropOwn': WHATEVER THE INPUT: true; the input reads as it did. -/
def tropOwnSpec : ChangeSpec := { name := "tropOwn", fn := fun _ => fun
  | [d] => { results := [.lit (.bool true)], args := [d] }
  | _ => none }
def tropOwnRow : OpenClaim := { program := "ytemofnmfaimliaadoor", sum := "6d0cee4726b26b1d96d8bf336baf41de540929130d9360ea5fca6dcc82595c3c", func := "hyphen/hyphenlaw1.TropOwn", spec := "tropOwn", inPlace := ["internal/abi.NoEscape", "internal/bytealg.MakeNoZero"], named := ["internal/strconv.uint64pow10", "math/bits.deBruijn32tab", "math/bits.deBruijn64tab"], apart := false, laid := [("math/bits.deBruijn32tab", laid_math_bits_deBruijn32tab), ("math/bits.deBruijn64tab", laid_math_bits_deBruijn64tab), ("internal/strconv.uint64pow10", laid_internal_strconv_uint64pow10)] }
def TropOwnSaid : Prop := tropOwnRow.holds Tryd.pinned (OpenSpec.ofChange tropOwnSpec)

/-- ITS FALSE NEIGHBOUR: 'it returns false'. Refute it at one input. -/
def tropOwnWrong : ChangeSpec := { name := "tropOwn", fn := fun _ => fun
  | [d] => { results := [.lit (.bool false)], args := [d] }
  | _ => none }
def TropOwnWrongFalsely : Prop := tropOwnRow.holds Tryd.pinned (OpenSpec.ofChange tropOwnWrong)

/- THE SECOND FORM. 'bulk': how many values and letters a reading holds, each counted each time it is reached (what is shared counts as often as it is met; a slice's spare places count too). A statement '..UptoSaid' is the law's where the arguments, and the package variables that the reading takes, are together of bulk at most 1048576: NARROWER than '..Said'. Prove '..Said' where nothing that the law and all that it calls make is longer than what came in: it says more and counts as full. Else prove '..UptoSaid'. A law counts once. -/
mutual
def uptoBulk {H : Type} : DataW H → Nat
  | .lit (.string bytes) => bytes.length + 1
  | .lit _ => 1
  | .nil => 1
  | .ptr d => uptoBulk d + 1
  | .slice elems spare => uptoBulkAll elems + uptoBulkAll spare + 1
  | .agg parts => uptoBulkAll parts + 1
  | .iface _ d => uptoBulk d + 1
  | .map entries => uptoBulkEntries entries + 1
  | .held _ => 1
def uptoBulkAll {H : Type} : List (DataW H) → Nat
  | [] => 0
  | d :: r => uptoBulk d + uptoBulkAll r
def uptoBulkEntries {H : Type} : List (Lit × DataW H) → Nat
  | [] => 0
  | x :: r => uptoBulkEntry x + uptoBulkEntries r
def uptoBulkEntry {H : Type} : Lit × DataW H → Nat
  | (.string bytes, d) => bytes.length + uptoBulk d + 1
  | (_, d) => uptoBulk d + 1
 end
def uptoSmall : (H : Type) → List (DataW H) → Bool := fun _ ds => decide (uptoBulkAll ds ≤ 1048576)
def OpenSpec.upto (s : _root_.Go.ChangeSpec) : _root_.Go.OpenSpec := { _root_.Go.OpenSpec.ofChange s with cond := some uptoSmall }

/-- 'hyphenlaw1.TropSums', WHERE WHAT IT READS IS OF BULK AT MOST 1048576: true; the input reads as it did. -/
def tropSumsUptoRow : OpenClaim := { program := "ytemofnmfaimliaadoor", sum := "6d0cee4726b26b1d96d8bf336baf41de540929130d9360ea5fca6dcc82595c3c", func := "hyphen/hyphenlaw1.TropSums", spec := "tropSums", inPlace := ["internal/abi.NoEscape", "internal/bytealg.MakeNoZero"], named := ["internal/strconv.uint64pow10", "math/bits.deBruijn32tab", "math/bits.deBruijn64tab"], apart := false, laid := [("math/bits.deBruijn32tab", laid_math_bits_deBruijn32tab), ("math/bits.deBruijn64tab", laid_math_bits_deBruijn64tab), ("internal/strconv.uint64pow10", laid_internal_strconv_uint64pow10)], narrowed := true }
def TropSumsUptoSaid : Prop := tropSumsUptoRow.holds Tryd.pinned (OpenSpec.upto tropSumsSpec)

/-- 'hyphenlaw1.TropLeast', WHERE WHAT IT READS IS OF BULK AT MOST 1048576: true; the input reads as it did. -/
def tropLeastUptoRow : OpenClaim := { program := "ytemofnmfaimliaadoor", sum := "6d0cee4726b26b1d96d8bf336baf41de540929130d9360ea5fca6dcc82595c3c", func := "hyphen/hyphenlaw1.TropLeast", spec := "tropLeast", inPlace := ["internal/abi.NoEscape", "internal/bytealg.MakeNoZero"], named := ["internal/strconv.uint64pow10", "math/bits.deBruijn32tab", "math/bits.deBruijn64tab"], apart := false, laid := [("math/bits.deBruijn32tab", laid_math_bits_deBruijn32tab), ("math/bits.deBruijn64tab", laid_math_bits_deBruijn64tab), ("internal/strconv.uint64pow10", laid_internal_strconv_uint64pow10)], narrowed := true }
def TropLeastUptoSaid : Prop := tropLeastUptoRow.holds Tryd.pinned (OpenSpec.upto tropLeastSpec)

/-- 'hyphenlaw1.TropVecs', WHERE WHAT IT READS IS OF BULK AT MOST 1048576: true; the input reads as it did. -/
def tropVecsUptoRow : OpenClaim := { program := "ytemofnmfaimliaadoor", sum := "6d0cee4726b26b1d96d8bf336baf41de540929130d9360ea5fca6dcc82595c3c", func := "hyphen/hyphenlaw1.TropVecs", spec := "tropVecs", inPlace := ["internal/abi.NoEscape", "internal/bytealg.MakeNoZero"], named := ["internal/strconv.uint64pow10", "math/bits.deBruijn32tab", "math/bits.deBruijn64tab"], apart := false, laid := [("math/bits.deBruijn32tab", laid_math_bits_deBruijn32tab), ("math/bits.deBruijn64tab", laid_math_bits_deBruijn64tab), ("internal/strconv.uint64pow10", laid_internal_strconv_uint64pow10)], narrowed := true }
def TropVecsUptoSaid : Prop := tropVecsUptoRow.holds Tryd.pinned (OpenSpec.upto tropVecsSpec)

/-- 'hyphenlaw1.TropTexts', WHERE WHAT IT READS IS OF BULK AT MOST 1048576: true; the input reads as it did. -/
def tropTextsUptoRow : OpenClaim := { program := "ytemofnmfaimliaadoor", sum := "6d0cee4726b26b1d96d8bf336baf41de540929130d9360ea5fca6dcc82595c3c", func := "hyphen/hyphenlaw1.TropTexts", spec := "tropTexts", inPlace := ["internal/abi.NoEscape", "internal/bytealg.MakeNoZero"], recurses := true, named := ["internal/strconv.uint64pow10", "math/bits.deBruijn32tab", "math/bits.deBruijn64tab"], apart := false, laid := [("math/bits.deBruijn32tab", laid_math_bits_deBruijn32tab), ("math/bits.deBruijn64tab", laid_math_bits_deBruijn64tab), ("internal/strconv.uint64pow10", laid_internal_strconv_uint64pow10)], narrowed := true }
def TropTextsUptoSaid : Prop := tropTextsUptoRow.holds Tryd.pinned (OpenSpec.upto tropTextsSpec)

/-- 'hyphenlaw1.TropKnown', WHERE WHAT IT READS IS OF BULK AT MOST 1048576: true; the input reads as it did. -/
def tropKnownUptoRow : OpenClaim := { program := "ytemofnmfaimliaadoor", sum := "6d0cee4726b26b1d96d8bf336baf41de540929130d9360ea5fca6dcc82595c3c", func := "hyphen/hyphenlaw1.TropKnown", spec := "tropKnown", inPlace := ["internal/abi.NoEscape", "internal/bytealg.MakeNoZero"], named := ["internal/strconv.uint64pow10", "math/bits.deBruijn32tab", "math/bits.deBruijn64tab"], apart := false, laid := [("math/bits.deBruijn32tab", laid_math_bits_deBruijn32tab), ("math/bits.deBruijn64tab", laid_math_bits_deBruijn64tab), ("internal/strconv.uint64pow10", laid_internal_strconv_uint64pow10)], narrowed := true }
def TropKnownUptoSaid : Prop := tropKnownUptoRow.holds Tryd.pinned (OpenSpec.upto tropKnownSpec)

/-- 'hyphenlaw1.TropRows', WHERE WHAT IT READS IS OF BULK AT MOST 1048576: true; the input reads as it did. -/
def tropRowsUptoRow : OpenClaim := { program := "ytemofnmfaimliaadoor", sum := "6d0cee4726b26b1d96d8bf336baf41de540929130d9360ea5fca6dcc82595c3c", func := "hyphen/hyphenlaw1.TropRows", spec := "tropRows", inPlace := ["internal/abi.NoEscape", "internal/bytealg.MakeNoZero"], named := ["internal/strconv.uint64pow10", "math/bits.deBruijn32tab", "math/bits.deBruijn64tab"], apart := false, laid := [("math/bits.deBruijn32tab", laid_math_bits_deBruijn32tab), ("math/bits.deBruijn64tab", laid_math_bits_deBruijn64tab), ("internal/strconv.uint64pow10", laid_internal_strconv_uint64pow10)], narrowed := true }
def TropRowsUptoSaid : Prop := tropRowsUptoRow.holds Tryd.pinned (OpenSpec.upto tropRowsSpec)

/-- 'hyphenlaw1.TropOwn', WHERE WHAT IT READS IS OF BULK AT MOST 1048576: true; the input reads as it did. -/
def tropOwnUptoRow : OpenClaim := { program := "ytemofnmfaimliaadoor", sum := "6d0cee4726b26b1d96d8bf336baf41de540929130d9360ea5fca6dcc82595c3c", func := "hyphen/hyphenlaw1.TropOwn", spec := "tropOwn", inPlace := ["internal/abi.NoEscape", "internal/bytealg.MakeNoZero"], named := ["internal/strconv.uint64pow10", "math/bits.deBruijn32tab", "math/bits.deBruijn64tab"], apart := false, laid := [("math/bits.deBruijn32tab", laid_math_bits_deBruijn32tab), ("math/bits.deBruijn64tab", laid_math_bits_deBruijn64tab), ("internal/strconv.uint64pow10", laid_internal_strconv_uint64pow10)], narrowed := true }
def TropOwnUptoSaid : Prop := tropOwnUptoRow.holds Tryd.pinned (OpenSpec.upto tropOwnSpec)

end Rows
end Go.Proofs.YtemofnmfaimliaaDoor

/-
  NARROWER THAN 'FOR EVERY INPUT', by the rows' own cells (each row's printed sentence says how): CodeReads: laid · CodeValid: laid · CodeTexts: laid · CodeMore: laid · CodeRename: laid · CodeOne: laid · CodeTextOnce: laid.
  DERIVED. THE GIVEN ROWS OF THIS SEAT. 7 by the template 'for every input the law returns true; each argument reads behind the call as it read before'; 0 by the template 'total and deterministic' (their statements: YtobhfmliaecbjaaDoorTotals.lean).
  GIVEN WITH THE SEED: the statements are not yours to turn. If you find one false, say at which input.
  Laid BY PROGRAM, IN A SANDBOX (cutbox-rows.mjs): the forced cells as the released guide's own fill.sh prints them over the translation 611b12d271352fe4… (all of the seat's roots in one cut). By AI agents, Wed Nov 11 2026. No macro, syntax, notation, axiom, sorry.
-/
import Derived.Test.YtobhfmliaecbjaaDoorChecked
import GoSem.Claim
import GoSem.ClaimJoined
import GoSem.ClaimMapViews
import Derived.JoinedTies
import Derived.KernelRfl
namespace Go.Proofs.YtobhfmliaecbjaaDoor
/- THE CELL 'sum', in the pinned program and in every row, IS THE sha256 OF THE DUMP (.gsa) THAT YtobhfmliaecbjaaDoorProg.lean LOADS. Nothing in Lean hashes anything: it is a label: what it is worth is what the hold of that sum in a sandbox is worth. -/
noncomputable def Tryd.pinned : Pinned := { name := "ytobhfmliaecbjaadoor", sum := "611b12d271352fe4e4d5ceb8295392929a38edd3302d5f7a304c98b0f365b409", checked := Tryd.checked }
namespace Rows
def none {H : Type} : Left H := { results := [], args := [] }

/- WHAT THE LISTED PACKAGE-LEVEL VARIABLES READ AS WHEN THE CALL BEGINS. Each datum BY PROGRAM (the guide's laid-datum.mjs) off the statement by which the dump's own 'gosem.cut.vars' lays the variable. In a bare row this is a premise. The card (YtobhfmliaecbjaaDoorCards.lean) ties it to the program's text. -/
def laid_math_bits_deBruijn32tab {H : Type} : DataW H := .agg [.lit (.int .u8 0), .lit (.int .u8 1), .lit (.int .u8 28), .lit (.int .u8 2), .lit (.int .u8 29), .lit (.int .u8 14), .lit (.int .u8 24), .lit (.int .u8 3), .lit (.int .u8 30), .lit (.int .u8 22), .lit (.int .u8 20), .lit (.int .u8 15), .lit (.int .u8 25), .lit (.int .u8 17), .lit (.int .u8 4), .lit (.int .u8 8), .lit (.int .u8 31), .lit (.int .u8 27), .lit (.int .u8 13), .lit (.int .u8 23), .lit (.int .u8 21), .lit (.int .u8 19), .lit (.int .u8 16), .lit (.int .u8 7), .lit (.int .u8 26), .lit (.int .u8 12), .lit (.int .u8 18), .lit (.int .u8 6), .lit (.int .u8 11), .lit (.int .u8 5), .lit (.int .u8 10), .lit (.int .u8 9)]
def laid_math_bits_deBruijn64tab {H : Type} : DataW H := .agg [.lit (.int .u8 0), .lit (.int .u8 1), .lit (.int .u8 56), .lit (.int .u8 2), .lit (.int .u8 57), .lit (.int .u8 49), .lit (.int .u8 28), .lit (.int .u8 3), .lit (.int .u8 61), .lit (.int .u8 58), .lit (.int .u8 42), .lit (.int .u8 50), .lit (.int .u8 38), .lit (.int .u8 29), .lit (.int .u8 17), .lit (.int .u8 4), .lit (.int .u8 62), .lit (.int .u8 47), .lit (.int .u8 59), .lit (.int .u8 36), .lit (.int .u8 45), .lit (.int .u8 43), .lit (.int .u8 51), .lit (.int .u8 22), .lit (.int .u8 53), .lit (.int .u8 39), .lit (.int .u8 33), .lit (.int .u8 30), .lit (.int .u8 24), .lit (.int .u8 18), .lit (.int .u8 12), .lit (.int .u8 5), .lit (.int .u8 63), .lit (.int .u8 55), .lit (.int .u8 48), .lit (.int .u8 27), .lit (.int .u8 60), .lit (.int .u8 41), .lit (.int .u8 37), .lit (.int .u8 16), .lit (.int .u8 46), .lit (.int .u8 35), .lit (.int .u8 44), .lit (.int .u8 21), .lit (.int .u8 52), .lit (.int .u8 32), .lit (.int .u8 23), .lit (.int .u8 11), .lit (.int .u8 54), .lit (.int .u8 26), .lit (.int .u8 40), .lit (.int .u8 15), .lit (.int .u8 34), .lit (.int .u8 20), .lit (.int .u8 31), .lit (.int .u8 10), .lit (.int .u8 25), .lit (.int .u8 14), .lit (.int .u8 19), .lit (.int .u8 9), .lit (.int .u8 13), .lit (.int .u8 8), .lit (.int .u8 7), .lit (.int .u8 6)]
def laid_internal_strconv_uint64pow10 {H : Type} : DataW H := .agg [.lit (.int .u64 1), .lit (.int .u64 10), .lit (.int .u64 100), .lit (.int .u64 1000), .lit (.int .u64 10000), .lit (.int .u64 100000), .lit (.int .u64 1000000), .lit (.int .u64 10000000), .lit (.int .u64 100000000), .lit (.int .u64 1000000000), .lit (.int .u64 10000000000), .lit (.int .u64 100000000000), .lit (.int .u64 1000000000000), .lit (.int .u64 10000000000000), .lit (.int .u64 100000000000000), .lit (.int .u64 1000000000000000), .lit (.int .u64 10000000000000000), .lit (.int .u64 100000000000000000), .lit (.int .u64 1000000000000000000), .lit (.int .u64 10000000000000000000)]
def laid_cocoon_code_shapes {H : Type} : DataW H := .agg [.agg [.agg [.lit (.int .i64 2), .lit (.int .i64 3), .lit (.int .i64 0)], .lit (.int .i64 0)], .agg [.agg [.lit (.int .i64 2), .lit (.int .i64 5), .lit (.int .i64 0)], .lit (.int .i64 0)], .agg [.agg [.lit (.int .i64 2), .lit (.int .i64 1), .lit (.int .i64 5)], .lit (.int .i64 0)], .agg [.agg [.lit (.int .i64 2), .lit (.int .i64 1), .lit (.int .i64 0)], .lit (.int .i64 0)], .agg [.agg [.lit (.int .i64 1), .lit (.int .i64 1), .lit (.int .i64 0)], .lit (.int .i64 0)], .agg [.agg [.lit (.int .i64 1), .lit (.int .i64 1), .lit (.int .i64 5)], .lit (.int .i64 0)], .agg [.agg [.lit (.int .i64 1), .lit (.int .i64 1), .lit (.int .i64 5)], .lit (.int .i64 0)], .agg [.agg [.lit (.int .i64 1), .lit (.int .i64 0), .lit (.int .i64 5)], .lit (.int .i64 0)], .agg [.agg [.lit (.int .i64 2), .lit (.int .i64 1), .lit (.int .i64 1)], .lit (.int .i64 1)], .agg [.agg [.lit (.int .i64 2), .lit (.int .i64 1), .lit (.int .i64 1)], .lit (.int .i64 1)], .agg [.agg [.lit (.int .i64 2), .lit (.int .i64 1), .lit (.int .i64 1)], .lit (.int .i64 1)], .agg [.agg [.lit (.int .i64 2), .lit (.int .i64 1), .lit (.int .i64 1)], .lit (.int .i64 0)], .agg [.agg [.lit (.int .i64 2), .lit (.int .i64 1), .lit (.int .i64 1)], .lit (.int .i64 0)], .agg [.agg [.lit (.int .i64 0), .lit (.int .i64 0), .lit (.int .i64 0)], .lit (.int .i64 1)], .agg [.agg [.lit (.int .i64 1), .lit (.int .i64 0), .lit (.int .i64 0)], .lit (.int .i64 1)], .agg [.agg [.lit (.int .i64 1), .lit (.int .i64 0), .lit (.int .i64 0)], .lit (.int .i64 2)], .agg [.agg [.lit (.int .i64 2), .lit (.int .i64 0), .lit (.int .i64 5)], .lit (.int .i64 0)], .agg [.agg [.lit (.int .i64 1), .lit (.int .i64 0), .lit (.int .i64 0)], .lit (.int .i64 0)], .agg [.agg [.lit (.int .i64 1), .lit (.int .i64 0), .lit (.int .i64 0)], .lit (.int .i64 0)], .agg [.agg [.lit (.int .i64 1), .lit (.int .i64 4), .lit (.int .i64 0)], .lit (.int .i64 0)], .agg [.agg [.lit (.int .i64 1), .lit (.int .i64 0), .lit (.int .i64 0)], .lit (.int .i64 0)], .agg [.agg [.lit (.int .i64 2), .lit (.int .i64 1), .lit (.int .i64 0)], .lit (.int .i64 0)], .agg [.agg [.lit (.int .i64 2), .lit (.int .i64 6), .lit (.int .i64 0)], .lit (.int .i64 0)], .agg [.agg [.lit (.int .i64 1), .lit (.int .i64 0), .lit (.int .i64 0)], .lit (.int .i64 1)], .agg [.agg [.lit (.int .i64 2), .lit (.int .i64 1), .lit (.int .i64 0)], .lit (.int .i64 1)], .agg [.agg [.lit (.int .i64 1), .lit (.int .i64 0), .lit (.int .i64 0)], .lit (.int .i64 0)], .agg [.agg [.lit (.int .i64 1), .lit (.int .i64 7), .lit (.int .i64 0)], .lit (.int .i64 0)], .agg [.agg [.lit (.int .i64 0), .lit (.int .i64 0), .lit (.int .i64 0)], .lit (.int .i64 0)], .agg [.agg [.lit (.int .i64 0), .lit (.int .i64 0), .lit (.int .i64 0)], .lit (.int .i64 0)], .agg [.agg [.lit (.int .i64 0), .lit (.int .i64 0), .lit (.int .i64 0)], .lit (.int .i64 0)]]

/-- 'cocoonlaw02.CodeReads': WHATEVER THE INPUT: true; the input reads as it did. -/
def codeReadsSpec : ChangeSpec := { name := "codeReads", fn := fun _ => fun
  | [d] => { results := [.lit (.bool true)], args := [d] }
  | _ => none }
def codeReadsRow : OpenClaim := { program := "ytobhfmliaecbjaadoor", sum := "611b12d271352fe4e4d5ceb8295392929a38edd3302d5f7a304c98b0f365b409", func := "cocoon/cocoonlaw02.CodeReads", spec := "codeReads", inPlace := ["internal/abi.NoEscape"], unfollowed := true, recurses := true, named := ["cocoon/code.shapes", "internal/strconv.uint64pow10", "math/bits.deBruijn32tab", "math/bits.deBruijn64tab"], apart := false, laid := [("math/bits.deBruijn32tab", laid_math_bits_deBruijn32tab), ("math/bits.deBruijn64tab", laid_math_bits_deBruijn64tab), ("internal/strconv.uint64pow10", laid_internal_strconv_uint64pow10), ("cocoon/code.shapes", laid_cocoon_code_shapes)] }
def CodeReadsSaid : Prop := codeReadsRow.holds Tryd.pinned (OpenSpec.ofChange codeReadsSpec)

/-- ITS FALSE NEIGHBOUR: 'it returns false'. Refute it at one input. -/
def codeReadsWrong : ChangeSpec := { name := "codeReads", fn := fun _ => fun
  | [d] => { results := [.lit (.bool false)], args := [d] }
  | _ => none }
def CodeReadsWrongFalsely : Prop := codeReadsRow.holds Tryd.pinned (OpenSpec.ofChange codeReadsWrong)

/-- 'cocoonlaw02.CodeValid': WHATEVER THE INPUT: true; the input reads as it did. -/
def codeValidSpec : ChangeSpec := { name := "codeValid", fn := fun _ => fun
  | [d] => { results := [.lit (.bool true)], args := [d] }
  | _ => none }
def codeValidRow : OpenClaim := { program := "ytobhfmliaecbjaadoor", sum := "611b12d271352fe4e4d5ceb8295392929a38edd3302d5f7a304c98b0f365b409", func := "cocoon/cocoonlaw02.CodeValid", spec := "codeValid", inPlace := ["internal/abi.NoEscape"], unfollowed := true, recurses := true, named := ["cocoon/code.shapes", "internal/strconv.uint64pow10", "math/bits.deBruijn32tab", "math/bits.deBruijn64tab"], apart := false, laid := [("math/bits.deBruijn32tab", laid_math_bits_deBruijn32tab), ("math/bits.deBruijn64tab", laid_math_bits_deBruijn64tab), ("internal/strconv.uint64pow10", laid_internal_strconv_uint64pow10), ("cocoon/code.shapes", laid_cocoon_code_shapes)] }
def CodeValidSaid : Prop := codeValidRow.holds Tryd.pinned (OpenSpec.ofChange codeValidSpec)

/-- ITS FALSE NEIGHBOUR: 'it returns false'. Refute it at one input. -/
def codeValidWrong : ChangeSpec := { name := "codeValid", fn := fun _ => fun
  | [d] => { results := [.lit (.bool false)], args := [d] }
  | _ => none }
def CodeValidWrongFalsely : Prop := codeValidRow.holds Tryd.pinned (OpenSpec.ofChange codeValidWrong)

/-- 'cocoonlaw02.CodeTexts': WHATEVER THE INPUT: true; the input reads as it did. -/
def codeTextsSpec : ChangeSpec := { name := "codeTexts", fn := fun _ => fun
  | [d] => { results := [.lit (.bool true)], args := [d] }
  | _ => none }
def codeTextsRow : OpenClaim := { program := "ytobhfmliaecbjaadoor", sum := "611b12d271352fe4e4d5ceb8295392929a38edd3302d5f7a304c98b0f365b409", func := "cocoon/cocoonlaw02.CodeTexts", spec := "codeTexts", inPlace := ["internal/abi.NoEscape"], unfollowed := true, recurses := true, named := ["cocoon/code.shapes", "internal/strconv.uint64pow10", "math/bits.deBruijn32tab", "math/bits.deBruijn64tab"], apart := false, laid := [("math/bits.deBruijn32tab", laid_math_bits_deBruijn32tab), ("math/bits.deBruijn64tab", laid_math_bits_deBruijn64tab), ("internal/strconv.uint64pow10", laid_internal_strconv_uint64pow10), ("cocoon/code.shapes", laid_cocoon_code_shapes)] }
def CodeTextsSaid : Prop := codeTextsRow.holds Tryd.pinned (OpenSpec.ofChange codeTextsSpec)

/-- ITS FALSE NEIGHBOUR: 'it returns false'. Refute it at one input. -/
def codeTextsWrong : ChangeSpec := { name := "codeTexts", fn := fun _ => fun
  | [d] => { results := [.lit (.bool false)], args := [d] }
  | _ => none }
def CodeTextsWrongFalsely : Prop := codeTextsRow.holds Tryd.pinned (OpenSpec.ofChange codeTextsWrong)

/-- 'cocoonlaw02.CodeMore': WHATEVER THE INPUT: true; the input reads as it did. -/
def codeMoreSpec : ChangeSpec := { name := "codeMore", fn := fun _ => fun
  | [d1, d2] => { results := [.lit (.bool true)], args := [d1, d2] }
  | _ => none }
def codeMoreRow : OpenClaim := { program := "ytobhfmliaecbjaadoor", sum := "611b12d271352fe4e4d5ceb8295392929a38edd3302d5f7a304c98b0f365b409", func := "cocoon/cocoonlaw02.CodeMore", spec := "codeMore", inPlace := ["internal/abi.NoEscape"], unfollowed := true, recurses := true, named := ["cocoon/code.shapes", "internal/strconv.uint64pow10", "math/bits.deBruijn32tab", "math/bits.deBruijn64tab"], apart := false, laid := [("math/bits.deBruijn32tab", laid_math_bits_deBruijn32tab), ("math/bits.deBruijn64tab", laid_math_bits_deBruijn64tab), ("internal/strconv.uint64pow10", laid_internal_strconv_uint64pow10), ("cocoon/code.shapes", laid_cocoon_code_shapes)] }
def CodeMoreSaid : Prop := codeMoreRow.holds Tryd.pinned (OpenSpec.ofChange codeMoreSpec)

/-- ITS FALSE NEIGHBOUR: 'it returns false'. Refute it at one input. -/
def codeMoreWrong : ChangeSpec := { name := "codeMore", fn := fun _ => fun
  | [d1, d2] => { results := [.lit (.bool false)], args := [d1, d2] }
  | _ => none }
def CodeMoreWrongFalsely : Prop := codeMoreRow.holds Tryd.pinned (OpenSpec.ofChange codeMoreWrong)

/-- 'cocoonlaw02.CodeRename': WHATEVER THE INPUT: true; the input reads as it did. -/
def codeRenameSpec : ChangeSpec := { name := "codeRename", fn := fun _ => fun
  | [d] => { results := [.lit (.bool true)], args := [d] }
  | _ => none }
def codeRenameRow : OpenClaim := { program := "ytobhfmliaecbjaadoor", sum := "611b12d271352fe4e4d5ceb8295392929a38edd3302d5f7a304c98b0f365b409", func := "cocoon/cocoonlaw02.CodeRename", spec := "codeRename", inPlace := ["internal/abi.NoEscape"], unfollowed := true, recurses := true, named := ["cocoon/code.shapes", "internal/strconv.uint64pow10", "math/bits.deBruijn32tab", "math/bits.deBruijn64tab"], apart := false, laid := [("math/bits.deBruijn32tab", laid_math_bits_deBruijn32tab), ("math/bits.deBruijn64tab", laid_math_bits_deBruijn64tab), ("internal/strconv.uint64pow10", laid_internal_strconv_uint64pow10), ("cocoon/code.shapes", laid_cocoon_code_shapes)] }
def CodeRenameSaid : Prop := codeRenameRow.holds Tryd.pinned (OpenSpec.ofChange codeRenameSpec)

/-- ITS FALSE NEIGHBOUR: 'it returns false'. Refute it at one input. -/
def codeRenameWrong : ChangeSpec := { name := "codeRename", fn := fun _ => fun
  | [d] => { results := [.lit (.bool false)], args := [d] }
  | _ => none }
def CodeRenameWrongFalsely : Prop := codeRenameRow.holds Tryd.pinned (OpenSpec.ofChange codeRenameWrong)

/-- 'cocoonlaw02.CodeOne': WHATEVER THE INPUT: true; the input reads as it did. -/
def codeOneSpec : ChangeSpec := { name := "codeOne", fn := fun _ => fun
  | [d1, d2, d3, d4] => { results := [.lit (.bool true)], args := [d1, d2, d3, d4] }
  | _ => none }
def codeOneRow : OpenClaim := { program := "ytobhfmliaecbjaadoor", sum := "611b12d271352fe4e4d5ceb8295392929a38edd3302d5f7a304c98b0f365b409", func := "cocoon/cocoonlaw02.CodeOne", spec := "codeOne", inPlace := ["internal/abi.NoEscape"], unfollowed := true, recurses := true, named := ["cocoon/code.shapes", "internal/strconv.uint64pow10", "math/bits.deBruijn32tab", "math/bits.deBruijn64tab"], apart := false, laid := [("math/bits.deBruijn32tab", laid_math_bits_deBruijn32tab), ("math/bits.deBruijn64tab", laid_math_bits_deBruijn64tab), ("internal/strconv.uint64pow10", laid_internal_strconv_uint64pow10), ("cocoon/code.shapes", laid_cocoon_code_shapes)] }
def CodeOneSaid : Prop := codeOneRow.holds Tryd.pinned (OpenSpec.ofChange codeOneSpec)

/-- ITS FALSE NEIGHBOUR: 'it returns false'. Refute it at one input. -/
def codeOneWrong : ChangeSpec := { name := "codeOne", fn := fun _ => fun
  | [d1, d2, d3, d4] => { results := [.lit (.bool false)], args := [d1, d2, d3, d4] }
  | _ => none }
def CodeOneWrongFalsely : Prop := codeOneRow.holds Tryd.pinned (OpenSpec.ofChange codeOneWrong)

/-- 'cocoonlaw02.CodeTextOnce': WHATEVER THE INPUT: true; the input reads as it did. -/
def codeTextOnceSpec : ChangeSpec := { name := "codeTextOnce", fn := fun _ => fun
  | [d1, d2] => { results := [.lit (.bool true)], args := [d1, d2] }
  | _ => none }
def codeTextOnceRow : OpenClaim := { program := "ytobhfmliaecbjaadoor", sum := "611b12d271352fe4e4d5ceb8295392929a38edd3302d5f7a304c98b0f365b409", func := "cocoon/cocoonlaw02.CodeTextOnce", spec := "codeTextOnce", inPlace := ["internal/abi.NoEscape"], unfollowed := true, recurses := true, named := ["cocoon/code.shapes", "internal/strconv.uint64pow10", "math/bits.deBruijn32tab", "math/bits.deBruijn64tab"], apart := false, laid := [("math/bits.deBruijn32tab", laid_math_bits_deBruijn32tab), ("math/bits.deBruijn64tab", laid_math_bits_deBruijn64tab), ("internal/strconv.uint64pow10", laid_internal_strconv_uint64pow10), ("cocoon/code.shapes", laid_cocoon_code_shapes)] }
def CodeTextOnceSaid : Prop := codeTextOnceRow.holds Tryd.pinned (OpenSpec.ofChange codeTextOnceSpec)

/-- ITS FALSE NEIGHBOUR: 'it returns false'. Refute it at one input. -/
def codeTextOnceWrong : ChangeSpec := { name := "codeTextOnce", fn := fun _ => fun
  | [d1, d2] => { results := [.lit (.bool false)], args := [d1, d2] }
  | _ => none }
def CodeTextOnceWrongFalsely : Prop := codeTextOnceRow.holds Tryd.pinned (OpenSpec.ofChange codeTextOnceWrong)

/- THE SECOND FORM. 'bulk': how many values and letters a reading holds, each counted each time it is reached (what is shared counts as often as it is met; a slice's spare places count too). A statement '..UptoSaid' is the law's where the arguments, and the package variables that the reading takes, are together of bulk at most 1048576: NARROWER than '..Said'. Prove '..Said' where nothing that the law and all that it calls make is longer than what came in: it says more and counts as full. Else prove '..UptoSaid'. A law counts once. -/
mutual
def uptoBulk {H : Type} : DataW H → Nat
  | .lit (.string bytes) => bytes.length + 1
  | .lit _ => 1
  | .nil => 1
  | .ptr d => uptoBulk d + 1
  | .slice elems spare => uptoBulkAll elems + uptoBulkAll spare + 1
  | .agg parts => uptoBulkAll parts + 1
  | .iface _ d => uptoBulk d + 1
  | .map entries => uptoBulkEntries entries + 1
  | .held _ => 1
def uptoBulkAll {H : Type} : List (DataW H) → Nat
  | [] => 0
  | d :: r => uptoBulk d + uptoBulkAll r
def uptoBulkEntries {H : Type} : List (Lit × DataW H) → Nat
  | [] => 0
  | x :: r => uptoBulkEntry x + uptoBulkEntries r
def uptoBulkEntry {H : Type} : Lit × DataW H → Nat
  | (.string bytes, d) => bytes.length + uptoBulk d + 1
  | (_, d) => uptoBulk d + 1
 end
def uptoSmall : (H : Type) → List (DataW H) → Bool := fun _ ds => decide (uptoBulkAll ds ≤ 1048576)
def OpenSpec.upto (s : _root_.Go.ChangeSpec) : _root_.Go.OpenSpec := { _root_.Go.OpenSpec.ofChange s with cond := some uptoSmall }

/-- 'cocoonlaw02.CodeReads', WHERE WHAT IT READS IS OF BULK AT MOST 1048576: true; the input reads as it did. -/
def codeReadsUptoRow : OpenClaim := { program := "ytobhfmliaecbjaadoor", sum := "611b12d271352fe4e4d5ceb8295392929a38edd3302d5f7a304c98b0f365b409", func := "cocoon/cocoonlaw02.CodeReads", spec := "codeReads", inPlace := ["internal/abi.NoEscape"], unfollowed := true, recurses := true, named := ["cocoon/code.shapes", "internal/strconv.uint64pow10", "math/bits.deBruijn32tab", "math/bits.deBruijn64tab"], apart := false, laid := [("math/bits.deBruijn32tab", laid_math_bits_deBruijn32tab), ("math/bits.deBruijn64tab", laid_math_bits_deBruijn64tab), ("internal/strconv.uint64pow10", laid_internal_strconv_uint64pow10), ("cocoon/code.shapes", laid_cocoon_code_shapes)], narrowed := true }
def CodeReadsUptoSaid : Prop := codeReadsUptoRow.holds Tryd.pinned (OpenSpec.upto codeReadsSpec)

/-- 'cocoonlaw02.CodeValid', WHERE WHAT IT READS IS OF BULK AT MOST 1048576: true; the input reads as it did. -/
def codeValidUptoRow : OpenClaim := { program := "ytobhfmliaecbjaadoor", sum := "611b12d271352fe4e4d5ceb8295392929a38edd3302d5f7a304c98b0f365b409", func := "cocoon/cocoonlaw02.CodeValid", spec := "codeValid", inPlace := ["internal/abi.NoEscape"], unfollowed := true, recurses := true, named := ["cocoon/code.shapes", "internal/strconv.uint64pow10", "math/bits.deBruijn32tab", "math/bits.deBruijn64tab"], apart := false, laid := [("math/bits.deBruijn32tab", laid_math_bits_deBruijn32tab), ("math/bits.deBruijn64tab", laid_math_bits_deBruijn64tab), ("internal/strconv.uint64pow10", laid_internal_strconv_uint64pow10), ("cocoon/code.shapes", laid_cocoon_code_shapes)], narrowed := true }
def CodeValidUptoSaid : Prop := codeValidUptoRow.holds Tryd.pinned (OpenSpec.upto codeValidSpec)

/-- 'cocoonlaw02.CodeTexts', WHERE WHAT IT READS IS OF BULK AT MOST 1048576: true; the input reads as it did. -/
def codeTextsUptoRow : OpenClaim := { program := "ytobhfmliaecbjaadoor", sum := "611b12d271352fe4e4d5ceb8295392929a38edd3302d5f7a304c98b0f365b409", func := "cocoon/cocoonlaw02.CodeTexts", spec := "codeTexts", inPlace := ["internal/abi.NoEscape"], unfollowed := true, recurses := true, named := ["cocoon/code.shapes", "internal/strconv.uint64pow10", "math/bits.deBruijn32tab", "math/bits.deBruijn64tab"], apart := false, laid := [("math/bits.deBruijn32tab", laid_math_bits_deBruijn32tab), ("math/bits.deBruijn64tab", laid_math_bits_deBruijn64tab), ("internal/strconv.uint64pow10", laid_internal_strconv_uint64pow10), ("cocoon/code.shapes", laid_cocoon_code_shapes)], narrowed := true }
def CodeTextsUptoSaid : Prop := codeTextsUptoRow.holds Tryd.pinned (OpenSpec.upto codeTextsSpec)

/-- 'cocoonlaw02.CodeMore', WHERE WHAT IT READS IS OF BULK AT MOST 1048576: true; the input reads as it did. -/
def codeMoreUptoRow : OpenClaim := { program := "ytobhfmliaecbjaadoor", sum := "611b12d271352fe4e4d5ceb8295392929a38edd3302d5f7a304c98b0f365b409", func := "cocoon/cocoonlaw02.CodeMore", spec := "codeMore", inPlace := ["internal/abi.NoEscape"], unfollowed := true, recurses := true, named := ["cocoon/code.shapes", "internal/strconv.uint64pow10", "math/bits.deBruijn32tab", "math/bits.deBruijn64tab"], apart := false, laid := [("math/bits.deBruijn32tab", laid_math_bits_deBruijn32tab), ("math/bits.deBruijn64tab", laid_math_bits_deBruijn64tab), ("internal/strconv.uint64pow10", laid_internal_strconv_uint64pow10), ("cocoon/code.shapes", laid_cocoon_code_shapes)], narrowed := true }
def CodeMoreUptoSaid : Prop := codeMoreUptoRow.holds Tryd.pinned (OpenSpec.upto codeMoreSpec)

/-- 'cocoonlaw02.CodeRename', WHERE WHAT IT READS IS OF BULK AT MOST 1048576: true; the input reads as it did. -/
def codeRenameUptoRow : OpenClaim := { program := "ytobhfmliaecbjaadoor", sum := "611b12d271352fe4e4d5ceb8295392929a38edd3302d5f7a304c98b0f365b409", func := "cocoon/cocoonlaw02.CodeRename", spec := "codeRename", inPlace := ["internal/abi.NoEscape"], unfollowed := true, recurses := true, named := ["cocoon/code.shapes", "internal/strconv.uint64pow10", "math/bits.deBruijn32tab", "math/bits.deBruijn64tab"], apart := false, laid := [("math/bits.deBruijn32tab", laid_math_bits_deBruijn32tab), ("math/bits.deBruijn64tab", laid_math_bits_deBruijn64tab), ("internal/strconv.uint64pow10", laid_internal_strconv_uint64pow10), ("cocoon/code.shapes", laid_cocoon_code_shapes)], narrowed := true }
def CodeRenameUptoSaid : Prop := codeRenameUptoRow.holds Tryd.pinned (OpenSpec.upto codeRenameSpec)

/-- 'cocoonlaw02.CodeOne', WHERE WHAT IT READS IS OF BULK AT MOST 1048576: true; the input reads as it did. -/
def codeOneUptoRow : OpenClaim := { program := "ytobhfmliaecbjaadoor", sum := "611b12d271352fe4e4d5ceb8295392929a38edd3302d5f7a304c98b0f365b409", func := "cocoon/cocoonlaw02.CodeOne", spec := "codeOne", inPlace := ["internal/abi.NoEscape"], unfollowed := true, recurses := true, named := ["cocoon/code.shapes", "internal/strconv.uint64pow10", "math/bits.deBruijn32tab", "math/bits.deBruijn64tab"], apart := false, laid := [("math/bits.deBruijn32tab", laid_math_bits_deBruijn32tab), ("math/bits.deBruijn64tab", laid_math_bits_deBruijn64tab), ("internal/strconv.uint64pow10", laid_internal_strconv_uint64pow10), ("cocoon/code.shapes", laid_cocoon_code_shapes)], narrowed := true }
def CodeOneUptoSaid : Prop := codeOneUptoRow.holds Tryd.pinned (OpenSpec.upto codeOneSpec)

/-- 'cocoonlaw02.CodeTextOnce', WHERE WHAT IT READS IS OF BULK AT MOST 1048576: true; the input reads as it did. -/
def codeTextOnceUptoRow : OpenClaim := { program := "ytobhfmliaecbjaadoor", sum := "611b12d271352fe4e4d5ceb8295392929a38edd3302d5f7a304c98b0f365b409", func := "cocoon/cocoonlaw02.CodeTextOnce", spec := "codeTextOnce", inPlace := ["internal/abi.NoEscape"], unfollowed := true, recurses := true, named := ["cocoon/code.shapes", "internal/strconv.uint64pow10", "math/bits.deBruijn32tab", "math/bits.deBruijn64tab"], apart := false, laid := [("math/bits.deBruijn32tab", laid_math_bits_deBruijn32tab), ("math/bits.deBruijn64tab", laid_math_bits_deBruijn64tab), ("internal/strconv.uint64pow10", laid_internal_strconv_uint64pow10), ("cocoon/code.shapes", laid_cocoon_code_shapes)], narrowed := true }
def CodeTextOnceUptoSaid : Prop := codeTextOnceUptoRow.holds Tryd.pinned (OpenSpec.upto codeTextOnceSpec)

end Rows
end Go.Proofs.YtobhfmliaecbjaaDoor

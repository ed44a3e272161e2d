/-
  NARROWER THAN 'FOR EVERY INPUT', by the rows' own cells (each row's printed sentence says how): TreeSame: loops, laid · TreeOnce: loops, laid · TreeParts: loops, laid · TreeNest: loops, laid · TreeDeep: loops, laid.
  DERIVED. THE GIVEN ROWS OF THIS SEAT. 5 by the template 'for every input the law returns true; each argument reads behind the call as it read before'; 0 by the template 'total and deterministic' (their statements: YtgogdcpgfmndnaaGreatDoorTotals.lean).
  GIVEN WITH THE SEED: the statements are not yours to turn. If you find one false, say at which input.
  Laid BY PROGRAM, IN A SANDBOX (cutbox-rows.mjs): the forced cells as the released guide's own fill.sh prints them over the translation 87ee740995458621… (all of the seat's roots in one cut). By AI agents, Wed Nov 11 2026. No macro, syntax, notation, axiom, sorry.
-/
import Derived.Test.YtgogdcpgfmndnaaGreatDoorChecked
import GoSem.Claim
import GoSem.ClaimJoined
import GoSem.ClaimMapViews
import Derived.JoinedTies
import Derived.KernelRfl
namespace Go.Proofs.YtgogdcpgfmndnaaGreatDoor
/- THE CELL 'sum', in the pinned program and in every row, IS THE sha256 OF THE DUMP (.gsa) THAT YtgogdcpgfmndnaaGreatDoorProg.lean LOADS. Nothing in Lean hashes anything: it is a label: what it is worth is what the hold of that sum in a sandbox is worth. -/
noncomputable def Tryz.pinned : Pinned := { name := "ytgogdcpgfmndnaagreatdoor", sum := "87ee740995458621edc791359c96bc6222e4a0f72d9e42dfe530ffdab9bdc3bf", checked := Tryz.checked }
namespace Rows
def none {H : Type} : Left H := { results := [], args := [] }

/- WHAT THE LISTED PACKAGE-LEVEL VARIABLES READ AS WHEN THE CALL BEGINS. Each datum BY PROGRAM (the guide's laid-datum.mjs) off the statement by which the dump's own 'gosem.cut.vars' lays the variable. In a bare row this is a premise. The card (YtgogdcpgfmndnaaGreatDoorCards.lean) ties it to the program's text. -/
def laid_math_bits_deBruijn32tab {H : Type} : DataW H := .agg [.lit (.int .u8 0), .lit (.int .u8 1), .lit (.int .u8 28), .lit (.int .u8 2), .lit (.int .u8 29), .lit (.int .u8 14), .lit (.int .u8 24), .lit (.int .u8 3), .lit (.int .u8 30), .lit (.int .u8 22), .lit (.int .u8 20), .lit (.int .u8 15), .lit (.int .u8 25), .lit (.int .u8 17), .lit (.int .u8 4), .lit (.int .u8 8), .lit (.int .u8 31), .lit (.int .u8 27), .lit (.int .u8 13), .lit (.int .u8 23), .lit (.int .u8 21), .lit (.int .u8 19), .lit (.int .u8 16), .lit (.int .u8 7), .lit (.int .u8 26), .lit (.int .u8 12), .lit (.int .u8 18), .lit (.int .u8 6), .lit (.int .u8 11), .lit (.int .u8 5), .lit (.int .u8 10), .lit (.int .u8 9)]
def laid_math_bits_deBruijn64tab {H : Type} : DataW H := .agg [.lit (.int .u8 0), .lit (.int .u8 1), .lit (.int .u8 56), .lit (.int .u8 2), .lit (.int .u8 57), .lit (.int .u8 49), .lit (.int .u8 28), .lit (.int .u8 3), .lit (.int .u8 61), .lit (.int .u8 58), .lit (.int .u8 42), .lit (.int .u8 50), .lit (.int .u8 38), .lit (.int .u8 29), .lit (.int .u8 17), .lit (.int .u8 4), .lit (.int .u8 62), .lit (.int .u8 47), .lit (.int .u8 59), .lit (.int .u8 36), .lit (.int .u8 45), .lit (.int .u8 43), .lit (.int .u8 51), .lit (.int .u8 22), .lit (.int .u8 53), .lit (.int .u8 39), .lit (.int .u8 33), .lit (.int .u8 30), .lit (.int .u8 24), .lit (.int .u8 18), .lit (.int .u8 12), .lit (.int .u8 5), .lit (.int .u8 63), .lit (.int .u8 55), .lit (.int .u8 48), .lit (.int .u8 27), .lit (.int .u8 60), .lit (.int .u8 41), .lit (.int .u8 37), .lit (.int .u8 16), .lit (.int .u8 46), .lit (.int .u8 35), .lit (.int .u8 44), .lit (.int .u8 21), .lit (.int .u8 52), .lit (.int .u8 32), .lit (.int .u8 23), .lit (.int .u8 11), .lit (.int .u8 54), .lit (.int .u8 26), .lit (.int .u8 40), .lit (.int .u8 15), .lit (.int .u8 34), .lit (.int .u8 20), .lit (.int .u8 31), .lit (.int .u8 10), .lit (.int .u8 25), .lit (.int .u8 14), .lit (.int .u8 19), .lit (.int .u8 9), .lit (.int .u8 13), .lit (.int .u8 8), .lit (.int .u8 7), .lit (.int .u8 6)]
def laid_internal_strconv_uint64pow10 {H : Type} : DataW H := .agg [.lit (.int .u64 1), .lit (.int .u64 10), .lit (.int .u64 100), .lit (.int .u64 1000), .lit (.int .u64 10000), .lit (.int .u64 100000), .lit (.int .u64 1000000), .lit (.int .u64 10000000), .lit (.int .u64 100000000), .lit (.int .u64 1000000000), .lit (.int .u64 10000000000), .lit (.int .u64 100000000000), .lit (.int .u64 1000000000000), .lit (.int .u64 10000000000000), .lit (.int .u64 100000000000000), .lit (.int .u64 1000000000000000), .lit (.int .u64 10000000000000000), .lit (.int .u64 100000000000000000), .lit (.int .u64 1000000000000000000), .lit (.int .u64 10000000000000000000)]
def laid_cocoon_lexis_reserved {H : Type} : DataW H := .agg [.lit (.string [115, 116, 114, 117, 99, 116]), .lit (.string [101, 110, 117, 109]), .lit (.string [99, 111]), .lit (.string [108, 101, 116]), .lit (.string [105, 102]), .lit (.string [101, 108, 115, 101]), .lit (.string [119, 104, 105, 108, 101]), .lit (.string [109, 97, 116, 99, 104]), .lit (.string [121, 105, 101, 108, 100]), .lit (.string [114, 101, 116, 117, 114, 110]), .lit (.string [112, 114, 105, 110, 116]), .lit (.string [100, 114, 111, 112]), .lit (.string [98, 111, 120]), .lit (.string [117, 110, 98, 111, 120]), .lit (.string [115, 116, 97, 114, 116]), .lit (.string [97, 119, 97, 105, 116]), .lit (.string [112, 111, 108, 108]), .lit (.string [119, 97, 105, 116]), .lit (.string [109, 117, 116]), .lit (.string [105, 110, 116])]
def laid_cocoon_tree_signs {H : Type} : DataW H := .agg [.lit (.string [32, 43, 32]), .lit (.string [32, 45, 32]), .lit (.string [32, 42, 32]), .lit (.string [32, 60, 32]), .lit (.string [32, 61, 61, 32])]

/-- 'cocoonlaw05.TreeSame': WHATEVER THE INPUT: true; the input reads as it did. -/
def treeSameSpec : ChangeSpec := { name := "treeSame", fn := fun _ => fun
  | [d1, d2] => { results := [.lit (.bool true)], args := [d1, d2] }
  | _ => none }
def treeSameRow : OpenClaim := { program := "ytgogdcpgfmndnaagreatdoor", sum := "87ee740995458621edc791359c96bc6222e4a0f72d9e42dfe530ffdab9bdc3bf", func := "cocoon/cocoonlaw05.TreeSame", spec := "treeSame", inPlace := ["internal/abi.NoEscape"], unfollowed := true, recurses := true, named := ["cocoon/tree.signs", "internal/strconv.uint64pow10", "math/bits.deBruijn32tab", "math/bits.deBruijn64tab", "cocoon/lexis.reserved"], loops := true, apart := false, laid := [("math/bits.deBruijn32tab", laid_math_bits_deBruijn32tab), ("math/bits.deBruijn64tab", laid_math_bits_deBruijn64tab), ("internal/strconv.uint64pow10", laid_internal_strconv_uint64pow10), ("cocoon/lexis.reserved", laid_cocoon_lexis_reserved), ("cocoon/tree.signs", laid_cocoon_tree_signs)] }
def TreeSameSaid : Prop := treeSameRow.holds Tryz.pinned (OpenSpec.ofChange treeSameSpec)

/-- ITS FALSE NEIGHBOUR: 'it returns false'. Refute it at one input. -/
def treeSameWrong : ChangeSpec := { name := "treeSame", fn := fun _ => fun
  | [d1, d2] => { results := [.lit (.bool false)], args := [d1, d2] }
  | _ => none }
def TreeSameWrongFalsely : Prop := treeSameRow.holds Tryz.pinned (OpenSpec.ofChange treeSameWrong)

/-- 'cocoonlaw05.TreeOnce': WHATEVER THE INPUT: true; the input reads as it did. -/
def treeOnceSpec : ChangeSpec := { name := "treeOnce", fn := fun _ => fun
  | [d1, d2] => { results := [.lit (.bool true)], args := [d1, d2] }
  | _ => none }
def treeOnceRow : OpenClaim := { program := "ytgogdcpgfmndnaagreatdoor", sum := "87ee740995458621edc791359c96bc6222e4a0f72d9e42dfe530ffdab9bdc3bf", func := "cocoon/cocoonlaw05.TreeOnce", spec := "treeOnce", inPlace := ["internal/abi.NoEscape"], unfollowed := true, recurses := true, named := ["cocoon/tree.signs", "internal/strconv.uint64pow10", "math/bits.deBruijn32tab", "math/bits.deBruijn64tab", "cocoon/lexis.reserved"], loops := true, apart := false, laid := [("math/bits.deBruijn32tab", laid_math_bits_deBruijn32tab), ("math/bits.deBruijn64tab", laid_math_bits_deBruijn64tab), ("internal/strconv.uint64pow10", laid_internal_strconv_uint64pow10), ("cocoon/lexis.reserved", laid_cocoon_lexis_reserved), ("cocoon/tree.signs", laid_cocoon_tree_signs)] }
def TreeOnceSaid : Prop := treeOnceRow.holds Tryz.pinned (OpenSpec.ofChange treeOnceSpec)

/-- ITS FALSE NEIGHBOUR: 'it returns false'. Refute it at one input. -/
def treeOnceWrong : ChangeSpec := { name := "treeOnce", fn := fun _ => fun
  | [d1, d2] => { results := [.lit (.bool false)], args := [d1, d2] }
  | _ => none }
def TreeOnceWrongFalsely : Prop := treeOnceRow.holds Tryz.pinned (OpenSpec.ofChange treeOnceWrong)

/-- 'cocoonlaw05.TreeParts': WHATEVER THE INPUT: true; the input reads as it did. -/
def treePartsSpec : ChangeSpec := { name := "treeParts", fn := fun _ => fun
  | [d] => { results := [.lit (.bool true)], args := [d] }
  | _ => none }
def treePartsRow : OpenClaim := { program := "ytgogdcpgfmndnaagreatdoor", sum := "87ee740995458621edc791359c96bc6222e4a0f72d9e42dfe530ffdab9bdc3bf", func := "cocoon/cocoonlaw05.TreeParts", spec := "treeParts", inPlace := ["internal/abi.NoEscape"], unfollowed := true, recurses := true, named := ["cocoon/tree.signs", "internal/strconv.uint64pow10", "math/bits.deBruijn32tab", "math/bits.deBruijn64tab", "cocoon/lexis.reserved"], loops := true, apart := false, laid := [("math/bits.deBruijn32tab", laid_math_bits_deBruijn32tab), ("math/bits.deBruijn64tab", laid_math_bits_deBruijn64tab), ("internal/strconv.uint64pow10", laid_internal_strconv_uint64pow10), ("cocoon/lexis.reserved", laid_cocoon_lexis_reserved), ("cocoon/tree.signs", laid_cocoon_tree_signs)] }
def TreePartsSaid : Prop := treePartsRow.holds Tryz.pinned (OpenSpec.ofChange treePartsSpec)

/-- ITS FALSE NEIGHBOUR: 'it returns false'. Refute it at one input. -/
def treePartsWrong : ChangeSpec := { name := "treeParts", fn := fun _ => fun
  | [d] => { results := [.lit (.bool false)], args := [d] }
  | _ => none }
def TreePartsWrongFalsely : Prop := treePartsRow.holds Tryz.pinned (OpenSpec.ofChange treePartsWrong)

/-- 'cocoonlaw05.TreeNest': WHATEVER THE INPUT: true; the input reads as it did. -/
def treeNestSpec : ChangeSpec := { name := "treeNest", fn := fun _ => fun
  | [d] => { results := [.lit (.bool true)], args := [d] }
  | _ => none }
def treeNestRow : OpenClaim := { program := "ytgogdcpgfmndnaagreatdoor", sum := "87ee740995458621edc791359c96bc6222e4a0f72d9e42dfe530ffdab9bdc3bf", func := "cocoon/cocoonlaw05.TreeNest", spec := "treeNest", inPlace := ["internal/abi.NoEscape"], unfollowed := true, recurses := true, named := ["cocoon/tree.signs", "internal/strconv.uint64pow10", "math/bits.deBruijn32tab", "math/bits.deBruijn64tab", "cocoon/lexis.reserved"], loops := true, apart := false, laid := [("math/bits.deBruijn32tab", laid_math_bits_deBruijn32tab), ("math/bits.deBruijn64tab", laid_math_bits_deBruijn64tab), ("internal/strconv.uint64pow10", laid_internal_strconv_uint64pow10), ("cocoon/lexis.reserved", laid_cocoon_lexis_reserved), ("cocoon/tree.signs", laid_cocoon_tree_signs)] }
def TreeNestSaid : Prop := treeNestRow.holds Tryz.pinned (OpenSpec.ofChange treeNestSpec)

/-- ITS FALSE NEIGHBOUR: 'it returns false'. Refute it at one input. -/
def treeNestWrong : ChangeSpec := { name := "treeNest", fn := fun _ => fun
  | [d] => { results := [.lit (.bool false)], args := [d] }
  | _ => none }
def TreeNestWrongFalsely : Prop := treeNestRow.holds Tryz.pinned (OpenSpec.ofChange treeNestWrong)

/-- 'cocoonlaw05.TreeDeep': WHATEVER THE INPUT: true; the input reads as it did. -/
def treeDeepSpec : ChangeSpec := { name := "treeDeep", fn := fun _ => fun
  | [d1, d2] => { results := [.lit (.bool true)], args := [d1, d2] }
  | _ => none }
def treeDeepRow : OpenClaim := { program := "ytgogdcpgfmndnaagreatdoor", sum := "87ee740995458621edc791359c96bc6222e4a0f72d9e42dfe530ffdab9bdc3bf", func := "cocoon/cocoonlaw05.TreeDeep", spec := "treeDeep", inPlace := ["internal/abi.NoEscape"], unfollowed := true, recurses := true, named := ["cocoon/tree.signs", "internal/strconv.uint64pow10", "math/bits.deBruijn32tab", "math/bits.deBruijn64tab", "cocoon/lexis.reserved"], loops := true, apart := false, laid := [("math/bits.deBruijn32tab", laid_math_bits_deBruijn32tab), ("math/bits.deBruijn64tab", laid_math_bits_deBruijn64tab), ("internal/strconv.uint64pow10", laid_internal_strconv_uint64pow10), ("cocoon/lexis.reserved", laid_cocoon_lexis_reserved), ("cocoon/tree.signs", laid_cocoon_tree_signs)] }
def TreeDeepSaid : Prop := treeDeepRow.holds Tryz.pinned (OpenSpec.ofChange treeDeepSpec)

/-- ITS FALSE NEIGHBOUR: 'it returns false'. Refute it at one input. -/
def treeDeepWrong : ChangeSpec := { name := "treeDeep", fn := fun _ => fun
  | [d1, d2] => { results := [.lit (.bool false)], args := [d1, d2] }
  | _ => none }
def TreeDeepWrongFalsely : Prop := treeDeepRow.holds Tryz.pinned (OpenSpec.ofChange treeDeepWrong)

/- THE SECOND FORM. 'bulk': how many values and letters a reading holds, each counted each time it is reached (what is shared counts as often as it is met; a slice's spare places count too). A statement '..UptoSaid' is the law's where the arguments, and the package variables that the reading takes, are together of bulk at most 1048576: NARROWER than '..Said'. Prove '..Said' where nothing that the law and all that it calls make is longer than what came in: it says more and counts as full. Else prove '..UptoSaid'. A law counts once. -/
mutual
def uptoBulk {H : Type} : DataW H → Nat
  | .lit (.string bytes) => bytes.length + 1
  | .lit _ => 1
  | .nil => 1
  | .ptr d => uptoBulk d + 1
  | .slice elems spare => uptoBulkAll elems + uptoBulkAll spare + 1
  | .agg parts => uptoBulkAll parts + 1
  | .iface _ d => uptoBulk d + 1
  | .map entries => uptoBulkEntries entries + 1
  | .held _ => 1
def uptoBulkAll {H : Type} : List (DataW H) → Nat
  | [] => 0
  | d :: r => uptoBulk d + uptoBulkAll r
def uptoBulkEntries {H : Type} : List (Lit × DataW H) → Nat
  | [] => 0
  | x :: r => uptoBulkEntry x + uptoBulkEntries r
def uptoBulkEntry {H : Type} : Lit × DataW H → Nat
  | (.string bytes, d) => bytes.length + uptoBulk d + 1
  | (_, d) => uptoBulk d + 1
 end
def uptoSmall : (H : Type) → List (DataW H) → Bool := fun _ ds => decide (uptoBulkAll ds ≤ 1048576)
def OpenSpec.upto (s : _root_.Go.ChangeSpec) : _root_.Go.OpenSpec := { _root_.Go.OpenSpec.ofChange s with cond := some uptoSmall }

/-- 'cocoonlaw05.TreeSame', WHERE WHAT IT READS IS OF BULK AT MOST 1048576: true; the input reads as it did. -/
def treeSameUptoRow : OpenClaim := { program := "ytgogdcpgfmndnaagreatdoor", sum := "87ee740995458621edc791359c96bc6222e4a0f72d9e42dfe530ffdab9bdc3bf", func := "cocoon/cocoonlaw05.TreeSame", spec := "treeSame", inPlace := ["internal/abi.NoEscape"], unfollowed := true, recurses := true, named := ["cocoon/tree.signs", "internal/strconv.uint64pow10", "math/bits.deBruijn32tab", "math/bits.deBruijn64tab", "cocoon/lexis.reserved"], loops := true, apart := false, laid := [("math/bits.deBruijn32tab", laid_math_bits_deBruijn32tab), ("math/bits.deBruijn64tab", laid_math_bits_deBruijn64tab), ("internal/strconv.uint64pow10", laid_internal_strconv_uint64pow10), ("cocoon/lexis.reserved", laid_cocoon_lexis_reserved), ("cocoon/tree.signs", laid_cocoon_tree_signs)], narrowed := true }
def TreeSameUptoSaid : Prop := treeSameUptoRow.holds Tryz.pinned (OpenSpec.upto treeSameSpec)

/-- 'cocoonlaw05.TreeOnce', WHERE WHAT IT READS IS OF BULK AT MOST 1048576: true; the input reads as it did. -/
def treeOnceUptoRow : OpenClaim := { program := "ytgogdcpgfmndnaagreatdoor", sum := "87ee740995458621edc791359c96bc6222e4a0f72d9e42dfe530ffdab9bdc3bf", func := "cocoon/cocoonlaw05.TreeOnce", spec := "treeOnce", inPlace := ["internal/abi.NoEscape"], unfollowed := true, recurses := true, named := ["cocoon/tree.signs", "internal/strconv.uint64pow10", "math/bits.deBruijn32tab", "math/bits.deBruijn64tab", "cocoon/lexis.reserved"], loops := true, apart := false, laid := [("math/bits.deBruijn32tab", laid_math_bits_deBruijn32tab), ("math/bits.deBruijn64tab", laid_math_bits_deBruijn64tab), ("internal/strconv.uint64pow10", laid_internal_strconv_uint64pow10), ("cocoon/lexis.reserved", laid_cocoon_lexis_reserved), ("cocoon/tree.signs", laid_cocoon_tree_signs)], narrowed := true }
def TreeOnceUptoSaid : Prop := treeOnceUptoRow.holds Tryz.pinned (OpenSpec.upto treeOnceSpec)

/-- 'cocoonlaw05.TreeParts', WHERE WHAT IT READS IS OF BULK AT MOST 1048576: true; the input reads as it did. -/
def treePartsUptoRow : OpenClaim := { program := "ytgogdcpgfmndnaagreatdoor", sum := "87ee740995458621edc791359c96bc6222e4a0f72d9e42dfe530ffdab9bdc3bf", func := "cocoon/cocoonlaw05.TreeParts", spec := "treeParts", inPlace := ["internal/abi.NoEscape"], unfollowed := true, recurses := true, named := ["cocoon/tree.signs", "internal/strconv.uint64pow10", "math/bits.deBruijn32tab", "math/bits.deBruijn64tab", "cocoon/lexis.reserved"], loops := true, apart := false, laid := [("math/bits.deBruijn32tab", laid_math_bits_deBruijn32tab), ("math/bits.deBruijn64tab", laid_math_bits_deBruijn64tab), ("internal/strconv.uint64pow10", laid_internal_strconv_uint64pow10), ("cocoon/lexis.reserved", laid_cocoon_lexis_reserved), ("cocoon/tree.signs", laid_cocoon_tree_signs)], narrowed := true }
def TreePartsUptoSaid : Prop := treePartsUptoRow.holds Tryz.pinned (OpenSpec.upto treePartsSpec)

/-- 'cocoonlaw05.TreeNest', WHERE WHAT IT READS IS OF BULK AT MOST 1048576: true; the input reads as it did. -/
def treeNestUptoRow : OpenClaim := { program := "ytgogdcpgfmndnaagreatdoor", sum := "87ee740995458621edc791359c96bc6222e4a0f72d9e42dfe530ffdab9bdc3bf", func := "cocoon/cocoonlaw05.TreeNest", spec := "treeNest", inPlace := ["internal/abi.NoEscape"], unfollowed := true, recurses := true, named := ["cocoon/tree.signs", "internal/strconv.uint64pow10", "math/bits.deBruijn32tab", "math/bits.deBruijn64tab", "cocoon/lexis.reserved"], loops := true, apart := false, laid := [("math/bits.deBruijn32tab", laid_math_bits_deBruijn32tab), ("math/bits.deBruijn64tab", laid_math_bits_deBruijn64tab), ("internal/strconv.uint64pow10", laid_internal_strconv_uint64pow10), ("cocoon/lexis.reserved", laid_cocoon_lexis_reserved), ("cocoon/tree.signs", laid_cocoon_tree_signs)], narrowed := true }
def TreeNestUptoSaid : Prop := treeNestUptoRow.holds Tryz.pinned (OpenSpec.upto treeNestSpec)

/-- 'cocoonlaw05.TreeDeep', WHERE WHAT IT READS IS OF BULK AT MOST 1048576: true; the input reads as it did. -/
def treeDeepUptoRow : OpenClaim := { program := "ytgogdcpgfmndnaagreatdoor", sum := "87ee740995458621edc791359c96bc6222e4a0f72d9e42dfe530ffdab9bdc3bf", func := "cocoon/cocoonlaw05.TreeDeep", spec := "treeDeep", inPlace := ["internal/abi.NoEscape"], unfollowed := true, recurses := true, named := ["cocoon/tree.signs", "internal/strconv.uint64pow10", "math/bits.deBruijn32tab", "math/bits.deBruijn64tab", "cocoon/lexis.reserved"], loops := true, apart := false, laid := [("math/bits.deBruijn32tab", laid_math_bits_deBruijn32tab), ("math/bits.deBruijn64tab", laid_math_bits_deBruijn64tab), ("internal/strconv.uint64pow10", laid_internal_strconv_uint64pow10), ("cocoon/lexis.reserved", laid_cocoon_lexis_reserved), ("cocoon/tree.signs", laid_cocoon_tree_signs)], narrowed := true }
def TreeDeepUptoSaid : Prop := treeDeepUptoRow.holds Tryz.pinned (OpenSpec.upto treeDeepSpec)

end Rows
end Go.Proofs.YtgogdcpgfmndnaaGreatDoor

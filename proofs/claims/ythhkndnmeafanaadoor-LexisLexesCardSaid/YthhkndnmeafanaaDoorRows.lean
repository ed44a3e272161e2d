/-
  NARROWER THAN 'FOR EVERY INPUT', by the rows' own cells (each row's printed sentence says how): LexisLexes: laid · LexisWords: laid · LexisPlaces: laid · LexisGlue: laid · LexisOne: laid · LexisNumbers: laid.
  DERIVED. THE GIVEN ROWS OF THIS SEAT. 6 by the template 'for every input the law returns true; each argument reads behind the call as it read before'; 0 by the template 'total and deterministic' (their statements: YthhkndnmeafanaaDoorTotals.lean).
  GIVEN WITH THE SEED: the statements are not yours to turn. If you find one false, say at which input.
  Laid BY PROGRAM, IN A SANDBOX (cutbox-rows.mjs): the forced cells as the released guide's own fill.sh prints them over the translation a5b89d3674484920… (all of the seat's roots in one cut). By AI agents, Wed Nov 11 2026. No macro, syntax, notation, axiom, sorry.
-/
import Derived.Test.YthhkndnmeafanaaDoorChecked
import GoSem.Claim
import GoSem.ClaimJoined
import GoSem.ClaimMapViews
import Derived.JoinedTies
import Derived.KernelRfl
namespace Go.Proofs.YthhkndnmeafanaaDoor
/- THE CELL 'sum', in the pinned program and in every row, IS THE sha256 OF THE DUMP (.gsa) THAT YthhkndnmeafanaaDoorProg.lean LOADS. Nothing in Lean hashes anything: it is a label: what it is worth is what the hold of that sum in a sandbox is worth. -/
noncomputable def Tryd.pinned : Pinned := { name := "ythhkndnmeafanaadoor", sum := "a5b89d367448492038357c017c420100816d8c762688cb212aa6e1326e824bab", checked := Tryd.checked }
namespace Rows
def none {H : Type} : Left H := { results := [], args := [] }

/- WHAT THE LISTED PACKAGE-LEVEL VARIABLES READ AS WHEN THE CALL BEGINS. Each datum BY PROGRAM (the guide's laid-datum.mjs) off the statement by which the dump's own 'gosem.cut.vars' lays the variable. In a bare row this is a premise. The card (YthhkndnmeafanaaDoorCards.lean) ties it to the program's text. -/
def laid_math_bits_deBruijn32tab {H : Type} : DataW H := .agg [.lit (.int .u8 0), .lit (.int .u8 1), .lit (.int .u8 28), .lit (.int .u8 2), .lit (.int .u8 29), .lit (.int .u8 14), .lit (.int .u8 24), .lit (.int .u8 3), .lit (.int .u8 30), .lit (.int .u8 22), .lit (.int .u8 20), .lit (.int .u8 15), .lit (.int .u8 25), .lit (.int .u8 17), .lit (.int .u8 4), .lit (.int .u8 8), .lit (.int .u8 31), .lit (.int .u8 27), .lit (.int .u8 13), .lit (.int .u8 23), .lit (.int .u8 21), .lit (.int .u8 19), .lit (.int .u8 16), .lit (.int .u8 7), .lit (.int .u8 26), .lit (.int .u8 12), .lit (.int .u8 18), .lit (.int .u8 6), .lit (.int .u8 11), .lit (.int .u8 5), .lit (.int .u8 10), .lit (.int .u8 9)]
def laid_math_bits_deBruijn64tab {H : Type} : DataW H := .agg [.lit (.int .u8 0), .lit (.int .u8 1), .lit (.int .u8 56), .lit (.int .u8 2), .lit (.int .u8 57), .lit (.int .u8 49), .lit (.int .u8 28), .lit (.int .u8 3), .lit (.int .u8 61), .lit (.int .u8 58), .lit (.int .u8 42), .lit (.int .u8 50), .lit (.int .u8 38), .lit (.int .u8 29), .lit (.int .u8 17), .lit (.int .u8 4), .lit (.int .u8 62), .lit (.int .u8 47), .lit (.int .u8 59), .lit (.int .u8 36), .lit (.int .u8 45), .lit (.int .u8 43), .lit (.int .u8 51), .lit (.int .u8 22), .lit (.int .u8 53), .lit (.int .u8 39), .lit (.int .u8 33), .lit (.int .u8 30), .lit (.int .u8 24), .lit (.int .u8 18), .lit (.int .u8 12), .lit (.int .u8 5), .lit (.int .u8 63), .lit (.int .u8 55), .lit (.int .u8 48), .lit (.int .u8 27), .lit (.int .u8 60), .lit (.int .u8 41), .lit (.int .u8 37), .lit (.int .u8 16), .lit (.int .u8 46), .lit (.int .u8 35), .lit (.int .u8 44), .lit (.int .u8 21), .lit (.int .u8 52), .lit (.int .u8 32), .lit (.int .u8 23), .lit (.int .u8 11), .lit (.int .u8 54), .lit (.int .u8 26), .lit (.int .u8 40), .lit (.int .u8 15), .lit (.int .u8 34), .lit (.int .u8 20), .lit (.int .u8 31), .lit (.int .u8 10), .lit (.int .u8 25), .lit (.int .u8 14), .lit (.int .u8 19), .lit (.int .u8 9), .lit (.int .u8 13), .lit (.int .u8 8), .lit (.int .u8 7), .lit (.int .u8 6)]
def laid_internal_strconv_uint64pow10 {H : Type} : DataW H := .agg [.lit (.int .u64 1), .lit (.int .u64 10), .lit (.int .u64 100), .lit (.int .u64 1000), .lit (.int .u64 10000), .lit (.int .u64 100000), .lit (.int .u64 1000000), .lit (.int .u64 10000000), .lit (.int .u64 100000000), .lit (.int .u64 1000000000), .lit (.int .u64 10000000000), .lit (.int .u64 100000000000), .lit (.int .u64 1000000000000), .lit (.int .u64 10000000000000), .lit (.int .u64 100000000000000), .lit (.int .u64 1000000000000000), .lit (.int .u64 10000000000000000), .lit (.int .u64 100000000000000000), .lit (.int .u64 1000000000000000000), .lit (.int .u64 10000000000000000000)]
def laid_strconv_ErrRange {H : Type} : DataW H := .iface "*errors.errorString" (.ptr (.agg [.lit (.string [118, 97, 108, 117, 101, 32, 111, 117, 116, 32, 111, 102, 32, 114, 97, 110, 103, 101])]))
def laid_strconv_ErrSyntax {H : Type} : DataW H := .iface "*errors.errorString" (.ptr (.agg [.lit (.string [105, 110, 118, 97, 108, 105, 100, 32, 115, 121, 110, 116, 97, 120])]))
def laid_cocoon_lexis_longSigns {H : Type} : DataW H := .agg [.lit (.string [58, 58]), .lit (.string [61, 61]), .lit (.string [61, 62]), .lit (.string [45, 62])]
def laid_cocoon_lexis_reserved {H : Type} : DataW H := .agg [.lit (.string [115, 116, 114, 117, 99, 116]), .lit (.string [101, 110, 117, 109]), .lit (.string [99, 111]), .lit (.string [108, 101, 116]), .lit (.string [105, 102]), .lit (.string [101, 108, 115, 101]), .lit (.string [119, 104, 105, 108, 101]), .lit (.string [109, 97, 116, 99, 104]), .lit (.string [121, 105, 101, 108, 100]), .lit (.string [114, 101, 116, 117, 114, 110]), .lit (.string [112, 114, 105, 110, 116]), .lit (.string [100, 114, 111, 112]), .lit (.string [98, 111, 120]), .lit (.string [117, 110, 98, 111, 120]), .lit (.string [115, 116, 97, 114, 116]), .lit (.string [97, 119, 97, 105, 116]), .lit (.string [112, 111, 108, 108]), .lit (.string [119, 97, 105, 116]), .lit (.string [109, 117, 116]), .lit (.string [105, 110, 116])]

/-- 'cocoonlaw04.LexisLexes': WHATEVER THE INPUT: true; the input reads as it did. -/
def lexisLexesSpec : ChangeSpec := { name := "lexisLexes", fn := fun _ => fun
  | [d] => { results := [.lit (.bool true)], args := [d] }
  | _ => none }
def lexisLexesRow : OpenClaim := { program := "ythhkndnmeafanaadoor", sum := "a5b89d367448492038357c017c420100816d8c762688cb212aa6e1326e824bab", func := "cocoon/cocoonlaw04.LexisLexes", spec := "lexisLexes", inPlace := ["internal/bytealg.IndexByteString"], unfollowed := true, recurses := true, named := ["strconv.ErrSyntax", "strconv.ErrRange", "internal/strconv.uint64pow10", "math/bits.deBruijn32tab", "math/bits.deBruijn64tab", "cocoon/lexis.longSigns", "cocoon/lexis.reserved"], apart := false, laid := [("math/bits.deBruijn32tab", laid_math_bits_deBruijn32tab), ("math/bits.deBruijn64tab", laid_math_bits_deBruijn64tab), ("internal/strconv.uint64pow10", laid_internal_strconv_uint64pow10), ("strconv.ErrRange", laid_strconv_ErrRange), ("strconv.ErrSyntax", laid_strconv_ErrSyntax), ("cocoon/lexis.longSigns", laid_cocoon_lexis_longSigns), ("cocoon/lexis.reserved", laid_cocoon_lexis_reserved)] }
def LexisLexesSaid : Prop := lexisLexesRow.holds Tryd.pinned (OpenSpec.ofChange lexisLexesSpec)

/-- ITS FALSE NEIGHBOUR: 'it returns false'. Refute it at one input. -/
def lexisLexesWrong : ChangeSpec := { name := "lexisLexes", fn := fun _ => fun
  | [d] => { results := [.lit (.bool false)], args := [d] }
  | _ => none }
def LexisLexesWrongFalsely : Prop := lexisLexesRow.holds Tryd.pinned (OpenSpec.ofChange lexisLexesWrong)

/-- 'cocoonlaw04.LexisWords': WHATEVER THE INPUT: true; the input reads as it did. -/
def lexisWordsSpec : ChangeSpec := { name := "lexisWords", fn := fun _ => fun
  | [d] => { results := [.lit (.bool true)], args := [d] }
  | _ => none }
def lexisWordsRow : OpenClaim := { program := "ythhkndnmeafanaadoor", sum := "a5b89d367448492038357c017c420100816d8c762688cb212aa6e1326e824bab", func := "cocoon/cocoonlaw04.LexisWords", spec := "lexisWords", inPlace := ["internal/bytealg.IndexByteString"], unfollowed := true, recurses := true, named := ["strconv.ErrSyntax", "strconv.ErrRange", "internal/strconv.uint64pow10", "math/bits.deBruijn32tab", "math/bits.deBruijn64tab", "cocoon/lexis.longSigns", "cocoon/lexis.reserved"], apart := false, laid := [("math/bits.deBruijn32tab", laid_math_bits_deBruijn32tab), ("math/bits.deBruijn64tab", laid_math_bits_deBruijn64tab), ("internal/strconv.uint64pow10", laid_internal_strconv_uint64pow10), ("strconv.ErrRange", laid_strconv_ErrRange), ("strconv.ErrSyntax", laid_strconv_ErrSyntax), ("cocoon/lexis.longSigns", laid_cocoon_lexis_longSigns), ("cocoon/lexis.reserved", laid_cocoon_lexis_reserved)] }
def LexisWordsSaid : Prop := lexisWordsRow.holds Tryd.pinned (OpenSpec.ofChange lexisWordsSpec)

/-- ITS FALSE NEIGHBOUR: 'it returns false'. Refute it at one input. -/
def lexisWordsWrong : ChangeSpec := { name := "lexisWords", fn := fun _ => fun
  | [d] => { results := [.lit (.bool false)], args := [d] }
  | _ => none }
def LexisWordsWrongFalsely : Prop := lexisWordsRow.holds Tryd.pinned (OpenSpec.ofChange lexisWordsWrong)

/-- 'cocoonlaw04.LexisPlaces': WHATEVER THE INPUT: true; the input reads as it did. -/
def lexisPlacesSpec : ChangeSpec := { name := "lexisPlaces", fn := fun _ => fun
  | [d] => { results := [.lit (.bool true)], args := [d] }
  | _ => none }
def lexisPlacesRow : OpenClaim := { program := "ythhkndnmeafanaadoor", sum := "a5b89d367448492038357c017c420100816d8c762688cb212aa6e1326e824bab", func := "cocoon/cocoonlaw04.LexisPlaces", spec := "lexisPlaces", inPlace := ["internal/bytealg.IndexByteString"], unfollowed := true, recurses := true, named := ["strconv.ErrSyntax", "strconv.ErrRange", "internal/strconv.uint64pow10", "math/bits.deBruijn32tab", "math/bits.deBruijn64tab", "cocoon/lexis.longSigns", "cocoon/lexis.reserved"], apart := false, laid := [("math/bits.deBruijn32tab", laid_math_bits_deBruijn32tab), ("math/bits.deBruijn64tab", laid_math_bits_deBruijn64tab), ("internal/strconv.uint64pow10", laid_internal_strconv_uint64pow10), ("strconv.ErrRange", laid_strconv_ErrRange), ("strconv.ErrSyntax", laid_strconv_ErrSyntax), ("cocoon/lexis.longSigns", laid_cocoon_lexis_longSigns), ("cocoon/lexis.reserved", laid_cocoon_lexis_reserved)] }
def LexisPlacesSaid : Prop := lexisPlacesRow.holds Tryd.pinned (OpenSpec.ofChange lexisPlacesSpec)

/-- ITS FALSE NEIGHBOUR: 'it returns false'. Refute it at one input. -/
def lexisPlacesWrong : ChangeSpec := { name := "lexisPlaces", fn := fun _ => fun
  | [d] => { results := [.lit (.bool false)], args := [d] }
  | _ => none }
def LexisPlacesWrongFalsely : Prop := lexisPlacesRow.holds Tryd.pinned (OpenSpec.ofChange lexisPlacesWrong)

/-- 'cocoonlaw04.LexisGlue': WHATEVER THE INPUT: true; the input reads as it did. -/
def lexisGlueSpec : ChangeSpec := { name := "lexisGlue", fn := fun _ => fun
  | [d1, d2] => { results := [.lit (.bool true)], args := [d1, d2] }
  | _ => none }
def lexisGlueRow : OpenClaim := { program := "ythhkndnmeafanaadoor", sum := "a5b89d367448492038357c017c420100816d8c762688cb212aa6e1326e824bab", func := "cocoon/cocoonlaw04.LexisGlue", spec := "lexisGlue", inPlace := ["internal/bytealg.IndexByteString"], unfollowed := true, recurses := true, named := ["strconv.ErrSyntax", "strconv.ErrRange", "internal/strconv.uint64pow10", "math/bits.deBruijn32tab", "math/bits.deBruijn64tab", "cocoon/lexis.longSigns", "cocoon/lexis.reserved"], apart := false, laid := [("math/bits.deBruijn32tab", laid_math_bits_deBruijn32tab), ("math/bits.deBruijn64tab", laid_math_bits_deBruijn64tab), ("internal/strconv.uint64pow10", laid_internal_strconv_uint64pow10), ("strconv.ErrRange", laid_strconv_ErrRange), ("strconv.ErrSyntax", laid_strconv_ErrSyntax), ("cocoon/lexis.longSigns", laid_cocoon_lexis_longSigns), ("cocoon/lexis.reserved", laid_cocoon_lexis_reserved)] }
def LexisGlueSaid : Prop := lexisGlueRow.holds Tryd.pinned (OpenSpec.ofChange lexisGlueSpec)

/-- ITS FALSE NEIGHBOUR: 'it returns false'. Refute it at one input. -/
def lexisGlueWrong : ChangeSpec := { name := "lexisGlue", fn := fun _ => fun
  | [d1, d2] => { results := [.lit (.bool false)], args := [d1, d2] }
  | _ => none }
def LexisGlueWrongFalsely : Prop := lexisGlueRow.holds Tryd.pinned (OpenSpec.ofChange lexisGlueWrong)

/-- 'cocoonlaw04.LexisOne': WHATEVER THE INPUT: true; the input reads as it did. -/
def lexisOneSpec : ChangeSpec := { name := "lexisOne", fn := fun _ => fun
  | [d] => { results := [.lit (.bool true)], args := [d] }
  | _ => none }
def lexisOneRow : OpenClaim := { program := "ythhkndnmeafanaadoor", sum := "a5b89d367448492038357c017c420100816d8c762688cb212aa6e1326e824bab", func := "cocoon/cocoonlaw04.LexisOne", spec := "lexisOne", inPlace := ["internal/bytealg.IndexByteString"], unfollowed := true, recurses := true, named := ["strconv.ErrSyntax", "strconv.ErrRange", "internal/strconv.uint64pow10", "math/bits.deBruijn32tab", "math/bits.deBruijn64tab", "cocoon/lexis.longSigns", "cocoon/lexis.reserved"], apart := false, laid := [("math/bits.deBruijn32tab", laid_math_bits_deBruijn32tab), ("math/bits.deBruijn64tab", laid_math_bits_deBruijn64tab), ("internal/strconv.uint64pow10", laid_internal_strconv_uint64pow10), ("strconv.ErrRange", laid_strconv_ErrRange), ("strconv.ErrSyntax", laid_strconv_ErrSyntax), ("cocoon/lexis.longSigns", laid_cocoon_lexis_longSigns), ("cocoon/lexis.reserved", laid_cocoon_lexis_reserved)] }
def LexisOneSaid : Prop := lexisOneRow.holds Tryd.pinned (OpenSpec.ofChange lexisOneSpec)

/-- ITS FALSE NEIGHBOUR: 'it returns false'. Refute it at one input. -/
def lexisOneWrong : ChangeSpec := { name := "lexisOne", fn := fun _ => fun
  | [d] => { results := [.lit (.bool false)], args := [d] }
  | _ => none }
def LexisOneWrongFalsely : Prop := lexisOneRow.holds Tryd.pinned (OpenSpec.ofChange lexisOneWrong)

/-- 'cocoonlaw04.LexisNumbers': WHATEVER THE INPUT: true; the input reads as it did. -/
def lexisNumbersSpec : ChangeSpec := { name := "lexisNumbers", fn := fun _ => fun
  | [d1, d2] => { results := [.lit (.bool true)], args := [d1, d2] }
  | _ => none }
def lexisNumbersRow : OpenClaim := { program := "ythhkndnmeafanaadoor", sum := "a5b89d367448492038357c017c420100816d8c762688cb212aa6e1326e824bab", func := "cocoon/cocoonlaw04.LexisNumbers", spec := "lexisNumbers", inPlace := ["internal/bytealg.IndexByteString"], unfollowed := true, recurses := true, named := ["strconv.ErrSyntax", "strconv.ErrRange", "internal/strconv.uint64pow10", "math/bits.deBruijn32tab", "math/bits.deBruijn64tab", "cocoon/lexis.longSigns", "cocoon/lexis.reserved"], apart := false, laid := [("math/bits.deBruijn32tab", laid_math_bits_deBruijn32tab), ("math/bits.deBruijn64tab", laid_math_bits_deBruijn64tab), ("internal/strconv.uint64pow10", laid_internal_strconv_uint64pow10), ("strconv.ErrRange", laid_strconv_ErrRange), ("strconv.ErrSyntax", laid_strconv_ErrSyntax), ("cocoon/lexis.longSigns", laid_cocoon_lexis_longSigns), ("cocoon/lexis.reserved", laid_cocoon_lexis_reserved)] }
def LexisNumbersSaid : Prop := lexisNumbersRow.holds Tryd.pinned (OpenSpec.ofChange lexisNumbersSpec)

/-- ITS FALSE NEIGHBOUR: 'it returns false'. Refute it at one input. -/
def lexisNumbersWrong : ChangeSpec := { name := "lexisNumbers", fn := fun _ => fun
  | [d1, d2] => { results := [.lit (.bool false)], args := [d1, d2] }
  | _ => none }
def LexisNumbersWrongFalsely : Prop := lexisNumbersRow.holds Tryd.pinned (OpenSpec.ofChange lexisNumbersWrong)

/- THE SECOND FORM. 'bulk': how many values and letters a reading holds, each counted each time it is reached (what is shared counts as often as it is met; a slice's spare places count too). A statement '..UptoSaid' is the law's where the arguments, and the package variables that the reading takes, are together of bulk at most 1048576: NARROWER than '..Said'. Prove '..Said' where nothing that the law and all that it calls make is longer than what came in: it says more and counts as full. Else prove '..UptoSaid'. A law counts once. -/
mutual
def uptoBulk {H : Type} : DataW H → Nat
  | .lit (.string bytes) => bytes.length + 1
  | .lit _ => 1
  | .nil => 1
  | .ptr d => uptoBulk d + 1
  | .slice elems spare => uptoBulkAll elems + uptoBulkAll spare + 1
  | .agg parts => uptoBulkAll parts + 1
  | .iface _ d => uptoBulk d + 1
  | .map entries => uptoBulkEntries entries + 1
  | .held _ => 1
def uptoBulkAll {H : Type} : List (DataW H) → Nat
  | [] => 0
  | d :: r => uptoBulk d + uptoBulkAll r
def uptoBulkEntries {H : Type} : List (Lit × DataW H) → Nat
  | [] => 0
  | x :: r => uptoBulkEntry x + uptoBulkEntries r
def uptoBulkEntry {H : Type} : Lit × DataW H → Nat
  | (.string bytes, d) => bytes.length + uptoBulk d + 1
  | (_, d) => uptoBulk d + 1
 end
def uptoSmall : (H : Type) → List (DataW H) → Bool := fun _ ds => decide (uptoBulkAll ds ≤ 1048576)
def OpenSpec.upto (s : _root_.Go.ChangeSpec) : _root_.Go.OpenSpec := { _root_.Go.OpenSpec.ofChange s with cond := some uptoSmall }

/-- 'cocoonlaw04.LexisLexes', WHERE WHAT IT READS IS OF BULK AT MOST 1048576: true; the input reads as it did. -/
def lexisLexesUptoRow : OpenClaim := { program := "ythhkndnmeafanaadoor", sum := "a5b89d367448492038357c017c420100816d8c762688cb212aa6e1326e824bab", func := "cocoon/cocoonlaw04.LexisLexes", spec := "lexisLexes", inPlace := ["internal/bytealg.IndexByteString"], unfollowed := true, recurses := true, named := ["strconv.ErrSyntax", "strconv.ErrRange", "internal/strconv.uint64pow10", "math/bits.deBruijn32tab", "math/bits.deBruijn64tab", "cocoon/lexis.longSigns", "cocoon/lexis.reserved"], apart := false, laid := [("math/bits.deBruijn32tab", laid_math_bits_deBruijn32tab), ("math/bits.deBruijn64tab", laid_math_bits_deBruijn64tab), ("internal/strconv.uint64pow10", laid_internal_strconv_uint64pow10), ("strconv.ErrRange", laid_strconv_ErrRange), ("strconv.ErrSyntax", laid_strconv_ErrSyntax), ("cocoon/lexis.longSigns", laid_cocoon_lexis_longSigns), ("cocoon/lexis.reserved", laid_cocoon_lexis_reserved)], narrowed := true }
def LexisLexesUptoSaid : Prop := lexisLexesUptoRow.holds Tryd.pinned (OpenSpec.upto lexisLexesSpec)

/-- 'cocoonlaw04.LexisWords', WHERE WHAT IT READS IS OF BULK AT MOST 1048576: true; the input reads as it did. -/
def lexisWordsUptoRow : OpenClaim := { program := "ythhkndnmeafanaadoor", sum := "a5b89d367448492038357c017c420100816d8c762688cb212aa6e1326e824bab", func := "cocoon/cocoonlaw04.LexisWords", spec := "lexisWords", inPlace := ["internal/bytealg.IndexByteString"], unfollowed := true, recurses := true, named := ["strconv.ErrSyntax", "strconv.ErrRange", "internal/strconv.uint64pow10", "math/bits.deBruijn32tab", "math/bits.deBruijn64tab", "cocoon/lexis.longSigns", "cocoon/lexis.reserved"], apart := false, laid := [("math/bits.deBruijn32tab", laid_math_bits_deBruijn32tab), ("math/bits.deBruijn64tab", laid_math_bits_deBruijn64tab), ("internal/strconv.uint64pow10", laid_internal_strconv_uint64pow10), ("strconv.ErrRange", laid_strconv_ErrRange), ("strconv.ErrSyntax", laid_strconv_ErrSyntax), ("cocoon/lexis.longSigns", laid_cocoon_lexis_longSigns), ("cocoon/lexis.reserved", laid_cocoon_lexis_reserved)], narrowed := true }
def LexisWordsUptoSaid : Prop := lexisWordsUptoRow.holds Tryd.pinned (OpenSpec.upto lexisWordsSpec)

/-- 'cocoonlaw04.LexisPlaces', WHERE WHAT IT READS IS OF BULK AT MOST 1048576: true; the input reads as it did. -/
def lexisPlacesUptoRow : OpenClaim := { program := "ythhkndnmeafanaadoor", sum := "a5b89d367448492038357c017c420100816d8c762688cb212aa6e1326e824bab", func := "cocoon/cocoonlaw04.LexisPlaces", spec := "lexisPlaces", inPlace := ["internal/bytealg.IndexByteString"], unfollowed := true, recurses := true, named := ["strconv.ErrSyntax", "strconv.ErrRange", "internal/strconv.uint64pow10", "math/bits.deBruijn32tab", "math/bits.deBruijn64tab", "cocoon/lexis.longSigns", "cocoon/lexis.reserved"], apart := false, laid := [("math/bits.deBruijn32tab", laid_math_bits_deBruijn32tab), ("math/bits.deBruijn64tab", laid_math_bits_deBruijn64tab), ("internal/strconv.uint64pow10", laid_internal_strconv_uint64pow10), ("strconv.ErrRange", laid_strconv_ErrRange), ("strconv.ErrSyntax", laid_strconv_ErrSyntax), ("cocoon/lexis.longSigns", laid_cocoon_lexis_longSigns), ("cocoon/lexis.reserved", laid_cocoon_lexis_reserved)], narrowed := true }
def LexisPlacesUptoSaid : Prop := lexisPlacesUptoRow.holds Tryd.pinned (OpenSpec.upto lexisPlacesSpec)

/-- 'cocoonlaw04.LexisGlue', WHERE WHAT IT READS IS OF BULK AT MOST 1048576: true; the input reads as it did. -/
def lexisGlueUptoRow : OpenClaim := { program := "ythhkndnmeafanaadoor", sum := "a5b89d367448492038357c017c420100816d8c762688cb212aa6e1326e824bab", func := "cocoon/cocoonlaw04.LexisGlue", spec := "lexisGlue", inPlace := ["internal/bytealg.IndexByteString"], unfollowed := true, recurses := true, named := ["strconv.ErrSyntax", "strconv.ErrRange", "internal/strconv.uint64pow10", "math/bits.deBruijn32tab", "math/bits.deBruijn64tab", "cocoon/lexis.longSigns", "cocoon/lexis.reserved"], apart := false, laid := [("math/bits.deBruijn32tab", laid_math_bits_deBruijn32tab), ("math/bits.deBruijn64tab", laid_math_bits_deBruijn64tab), ("internal/strconv.uint64pow10", laid_internal_strconv_uint64pow10), ("strconv.ErrRange", laid_strconv_ErrRange), ("strconv.ErrSyntax", laid_strconv_ErrSyntax), ("cocoon/lexis.longSigns", laid_cocoon_lexis_longSigns), ("cocoon/lexis.reserved", laid_cocoon_lexis_reserved)], narrowed := true }
def LexisGlueUptoSaid : Prop := lexisGlueUptoRow.holds Tryd.pinned (OpenSpec.upto lexisGlueSpec)

/-- 'cocoonlaw04.LexisOne', WHERE WHAT IT READS IS OF BULK AT MOST 1048576: true; the input reads as it did. -/
def lexisOneUptoRow : OpenClaim := { program := "ythhkndnmeafanaadoor", sum := "a5b89d367448492038357c017c420100816d8c762688cb212aa6e1326e824bab", func := "cocoon/cocoonlaw04.LexisOne", spec := "lexisOne", inPlace := ["internal/bytealg.IndexByteString"], unfollowed := true, recurses := true, named := ["strconv.ErrSyntax", "strconv.ErrRange", "internal/strconv.uint64pow10", "math/bits.deBruijn32tab", "math/bits.deBruijn64tab", "cocoon/lexis.longSigns", "cocoon/lexis.reserved"], apart := false, laid := [("math/bits.deBruijn32tab", laid_math_bits_deBruijn32tab), ("math/bits.deBruijn64tab", laid_math_bits_deBruijn64tab), ("internal/strconv.uint64pow10", laid_internal_strconv_uint64pow10), ("strconv.ErrRange", laid_strconv_ErrRange), ("strconv.ErrSyntax", laid_strconv_ErrSyntax), ("cocoon/lexis.longSigns", laid_cocoon_lexis_longSigns), ("cocoon/lexis.reserved", laid_cocoon_lexis_reserved)], narrowed := true }
def LexisOneUptoSaid : Prop := lexisOneUptoRow.holds Tryd.pinned (OpenSpec.upto lexisOneSpec)

/-- 'cocoonlaw04.LexisNumbers', WHERE WHAT IT READS IS OF BULK AT MOST 1048576: true; the input reads as it did. -/
def lexisNumbersUptoRow : OpenClaim := { program := "ythhkndnmeafanaadoor", sum := "a5b89d367448492038357c017c420100816d8c762688cb212aa6e1326e824bab", func := "cocoon/cocoonlaw04.LexisNumbers", spec := "lexisNumbers", inPlace := ["internal/bytealg.IndexByteString"], unfollowed := true, recurses := true, named := ["strconv.ErrSyntax", "strconv.ErrRange", "internal/strconv.uint64pow10", "math/bits.deBruijn32tab", "math/bits.deBruijn64tab", "cocoon/lexis.longSigns", "cocoon/lexis.reserved"], apart := false, laid := [("math/bits.deBruijn32tab", laid_math_bits_deBruijn32tab), ("math/bits.deBruijn64tab", laid_math_bits_deBruijn64tab), ("internal/strconv.uint64pow10", laid_internal_strconv_uint64pow10), ("strconv.ErrRange", laid_strconv_ErrRange), ("strconv.ErrSyntax", laid_strconv_ErrSyntax), ("cocoon/lexis.longSigns", laid_cocoon_lexis_longSigns), ("cocoon/lexis.reserved", laid_cocoon_lexis_reserved)], narrowed := true }
def LexisNumbersUptoSaid : Prop := lexisNumbersUptoRow.holds Tryd.pinned (OpenSpec.upto lexisNumbersSpec)

end Rows
end Go.Proofs.YthhkndnmeafanaaDoor

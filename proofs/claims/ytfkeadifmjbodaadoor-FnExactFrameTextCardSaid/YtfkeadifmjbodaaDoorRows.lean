/-
  NARROWER THAN 'FOR EVERY INPUT', by the rows' own cells (each row's printed sentence says how): FnExactFrameText: laid · FnExactReadFrame: laid · FnExactCompleteSets: laid · FnExactPreferredSets: laid · FnExactStableSets: laid · FnExactIdealSet: laid · FnExactStandingOf: laid · FnExactDefenceOf: laid · FnExactStrategyFor: laid.
  DERIVED. THE GIVEN ROWS OF THIS SEAT. 9 by the template 'for every input the law returns true; each argument reads behind the call as it read before'; 0 by the template 'total and deterministic' (their statements: YtfkeadifmjbodaaDoorTotals.lean).
  GIVEN WITH THE SEED: the statements are not yours to turn. If you find one false, say at which input.
  Laid BY PROGRAM, IN A SANDBOX (cutbox-rows.mjs): the forced cells as the released guide's own fill.sh prints them over the translation e9507bf23a0cd094… (all of the seat's roots in one cut). By AI agents, Wed Nov 11 2026. No macro, syntax, notation, axiom, sorry.
-/
import Derived.Test.YtfkeadifmjbodaaDoorChecked
import GoSem.PinnedTables
import GoSem.Claim
import GoSem.ClaimJoined
import GoSem.ClaimMapViews
import Derived.JoinedTies
import Derived.KernelRfl
namespace Go.Proofs.YtfkeadifmjbodaaDoor
/- THE CELL 'sum', in the pinned program and in every row, IS THE sha256 OF THE DUMP (.gsa) THAT YtfkeadifmjbodaaDoorProg.lean LOADS. Nothing in Lean hashes anything: it is a label: what it is worth is what the hold of that sum in a sandbox is worth. -/
noncomputable def Tryd.pinned : Pinned := { name := "ytfkeadifmjbodaadoor", sum := "e9507bf23a0cd0946e7b13d034449ea4be56c9ee4c7870b8cec707b6141ba273", checked := Tryd.checked }
namespace Rows
def none {H : Type} : Left H := { results := [], args := [] }

/- WHAT THE LISTED PACKAGE-LEVEL VARIABLES READ AS WHEN THE CALL BEGINS. Each datum BY PROGRAM (the guide's laid-datum.mjs) off the statement by which the dump's own 'gosem.cut.vars' lays the variable. In a bare row this is a premise. The card (YtfkeadifmjbodaaDoorCards.lean) ties it to the program's text. -/
def laid_math_bits_deBruijn32tab {H : Type} : DataW H := .agg [.lit (.int .u8 0), .lit (.int .u8 1), .lit (.int .u8 28), .lit (.int .u8 2), .lit (.int .u8 29), .lit (.int .u8 14), .lit (.int .u8 24), .lit (.int .u8 3), .lit (.int .u8 30), .lit (.int .u8 22), .lit (.int .u8 20), .lit (.int .u8 15), .lit (.int .u8 25), .lit (.int .u8 17), .lit (.int .u8 4), .lit (.int .u8 8), .lit (.int .u8 31), .lit (.int .u8 27), .lit (.int .u8 13), .lit (.int .u8 23), .lit (.int .u8 21), .lit (.int .u8 19), .lit (.int .u8 16), .lit (.int .u8 7), .lit (.int .u8 26), .lit (.int .u8 12), .lit (.int .u8 18), .lit (.int .u8 6), .lit (.int .u8 11), .lit (.int .u8 5), .lit (.int .u8 10), .lit (.int .u8 9)]
def laid_math_bits_deBruijn64tab {H : Type} : DataW H := .agg [.lit (.int .u8 0), .lit (.int .u8 1), .lit (.int .u8 56), .lit (.int .u8 2), .lit (.int .u8 57), .lit (.int .u8 49), .lit (.int .u8 28), .lit (.int .u8 3), .lit (.int .u8 61), .lit (.int .u8 58), .lit (.int .u8 42), .lit (.int .u8 50), .lit (.int .u8 38), .lit (.int .u8 29), .lit (.int .u8 17), .lit (.int .u8 4), .lit (.int .u8 62), .lit (.int .u8 47), .lit (.int .u8 59), .lit (.int .u8 36), .lit (.int .u8 45), .lit (.int .u8 43), .lit (.int .u8 51), .lit (.int .u8 22), .lit (.int .u8 53), .lit (.int .u8 39), .lit (.int .u8 33), .lit (.int .u8 30), .lit (.int .u8 24), .lit (.int .u8 18), .lit (.int .u8 12), .lit (.int .u8 5), .lit (.int .u8 63), .lit (.int .u8 55), .lit (.int .u8 48), .lit (.int .u8 27), .lit (.int .u8 60), .lit (.int .u8 41), .lit (.int .u8 37), .lit (.int .u8 16), .lit (.int .u8 46), .lit (.int .u8 35), .lit (.int .u8 44), .lit (.int .u8 21), .lit (.int .u8 52), .lit (.int .u8 32), .lit (.int .u8 23), .lit (.int .u8 11), .lit (.int .u8 54), .lit (.int .u8 26), .lit (.int .u8 40), .lit (.int .u8 15), .lit (.int .u8 34), .lit (.int .u8 20), .lit (.int .u8 31), .lit (.int .u8 10), .lit (.int .u8 25), .lit (.int .u8 14), .lit (.int .u8 19), .lit (.int .u8 9), .lit (.int .u8 13), .lit (.int .u8 8), .lit (.int .u8 7), .lit (.int .u8 6)]
def laid_internal_strconv_uint64pow10 {H : Type} : DataW H := .agg [.lit (.int .u64 1), .lit (.int .u64 10), .lit (.int .u64 100), .lit (.int .u64 1000), .lit (.int .u64 10000), .lit (.int .u64 100000), .lit (.int .u64 1000000), .lit (.int .u64 10000000), .lit (.int .u64 100000000), .lit (.int .u64 1000000000), .lit (.int .u64 10000000000), .lit (.int .u64 100000000000), .lit (.int .u64 1000000000000), .lit (.int .u64 10000000000000), .lit (.int .u64 100000000000000), .lit (.int .u64 1000000000000000), .lit (.int .u64 10000000000000000), .lit (.int .u64 100000000000000000), .lit (.int .u64 1000000000000000000), .lit (.int .u64 10000000000000000000)]
def laid_unicode_utf8_acceptRanges {H : Type} : DataW H := .agg [.agg [.lit (.int .u8 128), .lit (.int .u8 191)], .agg [.lit (.int .u8 160), .lit (.int .u8 191)], .agg [.lit (.int .u8 128), .lit (.int .u8 159)], .agg [.lit (.int .u8 144), .lit (.int .u8 191)], .agg [.lit (.int .u8 128), .lit (.int .u8 143)], .agg [.lit (.int .u8 0), .lit (.int .u8 0)], .agg [.lit (.int .u8 0), .lit (.int .u8 0)], .agg [.lit (.int .u8 0), .lit (.int .u8 0)], .agg [.lit (.int .u8 0), .lit (.int .u8 0)], .agg [.lit (.int .u8 0), .lit (.int .u8 0)], .agg [.lit (.int .u8 0), .lit (.int .u8 0)], .agg [.lit (.int .u8 0), .lit (.int .u8 0)], .agg [.lit (.int .u8 0), .lit (.int .u8 0)], .agg [.lit (.int .u8 0), .lit (.int .u8 0)], .agg [.lit (.int .u8 0), .lit (.int .u8 0)], .agg [.lit (.int .u8 0), .lit (.int .u8 0)]]
def laid_strconv_ErrRange {H : Type} : DataW H := .iface "*errors.errorString" (.ptr (.agg [.lit (.string [118, 97, 108, 117, 101, 32, 111, 117, 116, 32, 111, 102, 32, 114, 97, 110, 103, 101])]))
def laid_strconv_ErrSyntax {H : Type} : DataW H := .iface "*errors.errorString" (.ptr (.agg [.lit (.string [105, 110, 118, 97, 108, 105, 100, 32, 115, 121, 110, 116, 97, 120])]))
/-- One of Go's own tables, pinned by name: the form's constant. -/
def laid_unicode_utf8_first : DataW Unit := Go.Pinned.utf8First

/-- 'laws.FnExactFrameText': WHATEVER THE INPUT: true; the input reads as it did. -/
def fnExactFrameTextSpec : ChangeSpec := { name := "fnExactFrameText", fn := fun _ => fun
  | [d] => { results := [.lit (.bool true)], args := [d] }
  | _ => none }
def fnExactFrameTextRow : OpenClaim := { program := "ytfkeadifmjbodaadoor", sum := "e9507bf23a0cd0946e7b13d034449ea4be56c9ee4c7870b8cec707b6141ba273", func := "loop.example/g01095/laws.FnExactFrameText", spec := "fnExactFrameText", inPlace := ["internal/abi.NoEscape", "internal/bytealg.MakeNoZero"], unfollowed := true, recurses := true, named := ["internal/strconv.uint64pow10", "math/bits.deBruijn32tab", "math/bits.deBruijn64tab"], apart := false, laid := [("math/bits.deBruijn32tab", laid_math_bits_deBruijn32tab), ("math/bits.deBruijn64tab", laid_math_bits_deBruijn64tab), ("internal/strconv.uint64pow10", laid_internal_strconv_uint64pow10)] }
def FnExactFrameTextSaid : Prop := fnExactFrameTextRow.holds Tryd.pinned (OpenSpec.ofChange fnExactFrameTextSpec)

/-- ITS FALSE NEIGHBOUR: 'it returns false'. Refute it at one input. -/
def fnExactFrameTextWrong : ChangeSpec := { name := "fnExactFrameText", fn := fun _ => fun
  | [d] => { results := [.lit (.bool false)], args := [d] }
  | _ => none }
def FnExactFrameTextWrongFalsely : Prop := fnExactFrameTextRow.holds Tryd.pinned (OpenSpec.ofChange fnExactFrameTextWrong)

/-- 'laws.FnExactReadFrame': WHATEVER THE INPUT: true; the input reads as it did. -/
def fnExactReadFrameSpec : ChangeSpec := { name := "fnExactReadFrame", fn := fun _ => fun
  | [d] => { results := [.lit (.bool true)], args := [d] }
  | _ => none }
def fnExactReadFrameRow : OpenClaim := { program := "ytfkeadifmjbodaadoor", sum := "e9507bf23a0cd0946e7b13d034449ea4be56c9ee4c7870b8cec707b6141ba273", func := "loop.example/g01095/laws.FnExactReadFrame", spec := "fnExactReadFrame", inPlace := ["internal/bytealg.IndexByteString", "internal/bytealg.IndexString"], unfollowed := true, recurses := true, named := ["internal/bytealg.MaxLen", "strconv.ErrSyntax", "strconv.ErrRange", "internal/strconv.uint64pow10", "math/bits.deBruijn32tab", "math/bits.deBruijn64tab", "unicode/utf8.first", "unicode/utf8.acceptRanges"], apart := false, laid := [("math/bits.deBruijn32tab", laid_math_bits_deBruijn32tab), ("math/bits.deBruijn64tab", laid_math_bits_deBruijn64tab), ("internal/strconv.uint64pow10", laid_internal_strconv_uint64pow10), ("unicode/utf8.acceptRanges", laid_unicode_utf8_acceptRanges), ("strconv.ErrRange", laid_strconv_ErrRange), ("strconv.ErrSyntax", laid_strconv_ErrSyntax), ("unicode/utf8.first", laid_unicode_utf8_first)] }
def FnExactReadFrameSaid : Prop := fnExactReadFrameRow.holds Tryd.pinned (OpenSpec.ofChange fnExactReadFrameSpec)

/-- ITS FALSE NEIGHBOUR: 'it returns false'. Refute it at one input. -/
def fnExactReadFrameWrong : ChangeSpec := { name := "fnExactReadFrame", fn := fun _ => fun
  | [d] => { results := [.lit (.bool false)], args := [d] }
  | _ => none }
def FnExactReadFrameWrongFalsely : Prop := fnExactReadFrameRow.holds Tryd.pinned (OpenSpec.ofChange fnExactReadFrameWrong)

/-- 'laws.FnExactCompleteSets': WHATEVER THE INPUT: true; the input reads as it did. -/
def fnExactCompleteSetsSpec : ChangeSpec := { name := "fnExactCompleteSets", fn := fun _ => fun
  | [d] => { results := [.lit (.bool true)], args := [d] }
  | _ => none }
def fnExactCompleteSetsRow : OpenClaim := { program := "ytfkeadifmjbodaadoor", sum := "e9507bf23a0cd0946e7b13d034449ea4be56c9ee4c7870b8cec707b6141ba273", func := "loop.example/g01095/laws.FnExactCompleteSets", spec := "fnExactCompleteSets", unfollowed := true, recurses := true, named := ["math/bits.deBruijn32tab"], apart := false, laid := [("math/bits.deBruijn32tab", laid_math_bits_deBruijn32tab)] }
def FnExactCompleteSetsSaid : Prop := fnExactCompleteSetsRow.holds Tryd.pinned (OpenSpec.ofChange fnExactCompleteSetsSpec)

/-- ITS FALSE NEIGHBOUR: 'it returns false'. Refute it at one input. -/
def fnExactCompleteSetsWrong : ChangeSpec := { name := "fnExactCompleteSets", fn := fun _ => fun
  | [d] => { results := [.lit (.bool false)], args := [d] }
  | _ => none }
def FnExactCompleteSetsWrongFalsely : Prop := fnExactCompleteSetsRow.holds Tryd.pinned (OpenSpec.ofChange fnExactCompleteSetsWrong)

/-- 'laws.FnExactPreferredSets': WHATEVER THE INPUT: true; the input reads as it did. -/
def fnExactPreferredSetsSpec : ChangeSpec := { name := "fnExactPreferredSets", fn := fun _ => fun
  | [d] => { results := [.lit (.bool true)], args := [d] }
  | _ => none }
def fnExactPreferredSetsRow : OpenClaim := { program := "ytfkeadifmjbodaadoor", sum := "e9507bf23a0cd0946e7b13d034449ea4be56c9ee4c7870b8cec707b6141ba273", func := "loop.example/g01095/laws.FnExactPreferredSets", spec := "fnExactPreferredSets", unfollowed := true, recurses := true, named := ["math/bits.deBruijn32tab"], apart := false, laid := [("math/bits.deBruijn32tab", laid_math_bits_deBruijn32tab)] }
def FnExactPreferredSetsSaid : Prop := fnExactPreferredSetsRow.holds Tryd.pinned (OpenSpec.ofChange fnExactPreferredSetsSpec)

/-- ITS FALSE NEIGHBOUR: 'it returns false'. Refute it at one input. -/
def fnExactPreferredSetsWrong : ChangeSpec := { name := "fnExactPreferredSets", fn := fun _ => fun
  | [d] => { results := [.lit (.bool false)], args := [d] }
  | _ => none }
def FnExactPreferredSetsWrongFalsely : Prop := fnExactPreferredSetsRow.holds Tryd.pinned (OpenSpec.ofChange fnExactPreferredSetsWrong)

/-- 'laws.FnExactStableSets': WHATEVER THE INPUT: true; the input reads as it did. -/
def fnExactStableSetsSpec : ChangeSpec := { name := "fnExactStableSets", fn := fun _ => fun
  | [d] => { results := [.lit (.bool true)], args := [d] }
  | _ => none }
def fnExactStableSetsRow : OpenClaim := { program := "ytfkeadifmjbodaadoor", sum := "e9507bf23a0cd0946e7b13d034449ea4be56c9ee4c7870b8cec707b6141ba273", func := "loop.example/g01095/laws.FnExactStableSets", spec := "fnExactStableSets", unfollowed := true, recurses := true, named := ["math/bits.deBruijn32tab"], apart := false, laid := [("math/bits.deBruijn32tab", laid_math_bits_deBruijn32tab)] }
def FnExactStableSetsSaid : Prop := fnExactStableSetsRow.holds Tryd.pinned (OpenSpec.ofChange fnExactStableSetsSpec)

/-- ITS FALSE NEIGHBOUR: 'it returns false'. Refute it at one input. -/
def fnExactStableSetsWrong : ChangeSpec := { name := "fnExactStableSets", fn := fun _ => fun
  | [d] => { results := [.lit (.bool false)], args := [d] }
  | _ => none }
def FnExactStableSetsWrongFalsely : Prop := fnExactStableSetsRow.holds Tryd.pinned (OpenSpec.ofChange fnExactStableSetsWrong)

/-- 'laws.FnExactIdealSet': WHATEVER THE INPUT: true; the input reads as it did. -/
def fnExactIdealSetSpec : ChangeSpec := { name := "fnExactIdealSet", fn := fun _ => fun
  | [d] => { results := [.lit (.bool true)], args := [d] }
  | _ => none }
def fnExactIdealSetRow : OpenClaim := { program := "ytfkeadifmjbodaadoor", sum := "e9507bf23a0cd0946e7b13d034449ea4be56c9ee4c7870b8cec707b6141ba273", func := "loop.example/g01095/laws.FnExactIdealSet", spec := "fnExactIdealSet", unfollowed := true, recurses := true, named := ["math/bits.deBruijn32tab"], apart := false, laid := [("math/bits.deBruijn32tab", laid_math_bits_deBruijn32tab)] }
def FnExactIdealSetSaid : Prop := fnExactIdealSetRow.holds Tryd.pinned (OpenSpec.ofChange fnExactIdealSetSpec)

/-- ITS FALSE NEIGHBOUR: 'it returns false'. Refute it at one input. -/
def fnExactIdealSetWrong : ChangeSpec := { name := "fnExactIdealSet", fn := fun _ => fun
  | [d] => { results := [.lit (.bool false)], args := [d] }
  | _ => none }
def FnExactIdealSetWrongFalsely : Prop := fnExactIdealSetRow.holds Tryd.pinned (OpenSpec.ofChange fnExactIdealSetWrong)

/-- 'laws.FnExactStandingOf': WHATEVER THE INPUT: true; the input reads as it did. -/
def fnExactStandingOfSpec : ChangeSpec := { name := "fnExactStandingOf", fn := fun _ => fun
  | [d1, d2] => { results := [.lit (.bool true)], args := [d1, d2] }
  | _ => none }
def fnExactStandingOfRow : OpenClaim := { program := "ytfkeadifmjbodaadoor", sum := "e9507bf23a0cd0946e7b13d034449ea4be56c9ee4c7870b8cec707b6141ba273", func := "loop.example/g01095/laws.FnExactStandingOf", spec := "fnExactStandingOf", unfollowed := true, recurses := true, named := ["math/bits.deBruijn32tab"], apart := false, laid := [("math/bits.deBruijn32tab", laid_math_bits_deBruijn32tab)] }
def FnExactStandingOfSaid : Prop := fnExactStandingOfRow.holds Tryd.pinned (OpenSpec.ofChange fnExactStandingOfSpec)

/-- ITS FALSE NEIGHBOUR: 'it returns false'. Refute it at one input. -/
def fnExactStandingOfWrong : ChangeSpec := { name := "fnExactStandingOf", fn := fun _ => fun
  | [d1, d2] => { results := [.lit (.bool false)], args := [d1, d2] }
  | _ => none }
def FnExactStandingOfWrongFalsely : Prop := fnExactStandingOfRow.holds Tryd.pinned (OpenSpec.ofChange fnExactStandingOfWrong)

/-- 'laws.FnExactDefenceOf': WHATEVER THE INPUT: true; the input reads as it did. -/
def fnExactDefenceOfSpec : ChangeSpec := { name := "fnExactDefenceOf", fn := fun _ => fun
  | [d1, d2] => { results := [.lit (.bool true)], args := [d1, d2] }
  | _ => none }
def fnExactDefenceOfRow : OpenClaim := { program := "ytfkeadifmjbodaadoor", sum := "e9507bf23a0cd0946e7b13d034449ea4be56c9ee4c7870b8cec707b6141ba273", func := "loop.example/g01095/laws.FnExactDefenceOf", spec := "fnExactDefenceOf", unfollowed := true, recurses := true, named := ["math/bits.deBruijn32tab"], apart := false, laid := [("math/bits.deBruijn32tab", laid_math_bits_deBruijn32tab)] }
def FnExactDefenceOfSaid : Prop := fnExactDefenceOfRow.holds Tryd.pinned (OpenSpec.ofChange fnExactDefenceOfSpec)

/-- ITS FALSE NEIGHBOUR: 'it returns false'. Refute it at one input. -/
def fnExactDefenceOfWrong : ChangeSpec := { name := "fnExactDefenceOf", fn := fun _ => fun
  | [d1, d2] => { results := [.lit (.bool false)], args := [d1, d2] }
  | _ => none }
def FnExactDefenceOfWrongFalsely : Prop := fnExactDefenceOfRow.holds Tryd.pinned (OpenSpec.ofChange fnExactDefenceOfWrong)

/-- 'laws.FnExactStrategyFor': WHATEVER THE INPUT: true; the input reads as it did. -/
def fnExactStrategyForSpec : ChangeSpec := { name := "fnExactStrategyFor", fn := fun _ => fun
  | [d1, d2] => { results := [.lit (.bool true)], args := [d1, d2] }
  | _ => none }
def fnExactStrategyForRow : OpenClaim := { program := "ytfkeadifmjbodaadoor", sum := "e9507bf23a0cd0946e7b13d034449ea4be56c9ee4c7870b8cec707b6141ba273", func := "loop.example/g01095/laws.FnExactStrategyFor", spec := "fnExactStrategyFor", unfollowed := true, recurses := true, named := ["math/bits.deBruijn32tab"], apart := false, laid := [("math/bits.deBruijn32tab", laid_math_bits_deBruijn32tab)] }
def FnExactStrategyForSaid : Prop := fnExactStrategyForRow.holds Tryd.pinned (OpenSpec.ofChange fnExactStrategyForSpec)

/-- ITS FALSE NEIGHBOUR: 'it returns false'. Refute it at one input. -/
def fnExactStrategyForWrong : ChangeSpec := { name := "fnExactStrategyFor", fn := fun _ => fun
  | [d1, d2] => { results := [.lit (.bool false)], args := [d1, d2] }
  | _ => none }
def FnExactStrategyForWrongFalsely : Prop := fnExactStrategyForRow.holds Tryd.pinned (OpenSpec.ofChange fnExactStrategyForWrong)

/- THE SECOND FORM. 'bulk': how many values and letters a reading holds, each counted each time it is reached (what is shared counts as often as it is met; a slice's spare places count too). A statement '..UptoSaid' is the law's where the arguments, and the package variables that the reading takes, are together of bulk at most 1048576: NARROWER than '..Said'. Prove '..Said' where nothing that the law and all that it calls make is longer than what came in: it says more and counts as full. Else prove '..UptoSaid'. A law counts once. -/
mutual
def uptoBulk {H : Type} : DataW H → Nat
  | .lit (.string bytes) => bytes.length + 1
  | .lit _ => 1
  | .nil => 1
  | .ptr d => uptoBulk d + 1
  | .slice elems spare => uptoBulkAll elems + uptoBulkAll spare + 1
  | .agg parts => uptoBulkAll parts + 1
  | .iface _ d => uptoBulk d + 1
  | .map entries => uptoBulkEntries entries + 1
  | .held _ => 1
def uptoBulkAll {H : Type} : List (DataW H) → Nat
  | [] => 0
  | d :: r => uptoBulk d + uptoBulkAll r
def uptoBulkEntries {H : Type} : List (Lit × DataW H) → Nat
  | [] => 0
  | x :: r => uptoBulkEntry x + uptoBulkEntries r
def uptoBulkEntry {H : Type} : Lit × DataW H → Nat
  | (.string bytes, d) => bytes.length + uptoBulk d + 1
  | (_, d) => uptoBulk d + 1
 end
def uptoSmall : (H : Type) → List (DataW H) → Bool := fun _ ds => decide (uptoBulkAll ds ≤ 1048576)
def OpenSpec.upto (s : _root_.Go.ChangeSpec) : _root_.Go.OpenSpec := { _root_.Go.OpenSpec.ofChange s with cond := some uptoSmall }

/-- 'laws.FnExactFrameText', WHERE WHAT IT READS IS OF BULK AT MOST 1048576: true; the input reads as it did. -/
def fnExactFrameTextUptoRow : OpenClaim := { program := "ytfkeadifmjbodaadoor", sum := "e9507bf23a0cd0946e7b13d034449ea4be56c9ee4c7870b8cec707b6141ba273", func := "loop.example/g01095/laws.FnExactFrameText", spec := "fnExactFrameText", inPlace := ["internal/abi.NoEscape", "internal/bytealg.MakeNoZero"], unfollowed := true, recurses := true, named := ["internal/strconv.uint64pow10", "math/bits.deBruijn32tab", "math/bits.deBruijn64tab"], apart := false, laid := [("math/bits.deBruijn32tab", laid_math_bits_deBruijn32tab), ("math/bits.deBruijn64tab", laid_math_bits_deBruijn64tab), ("internal/strconv.uint64pow10", laid_internal_strconv_uint64pow10)], narrowed := true }
def FnExactFrameTextUptoSaid : Prop := fnExactFrameTextUptoRow.holds Tryd.pinned (OpenSpec.upto fnExactFrameTextSpec)

/-- 'laws.FnExactReadFrame', WHERE WHAT IT READS IS OF BULK AT MOST 1048576: true; the input reads as it did. -/
def fnExactReadFrameUptoRow : OpenClaim := { program := "ytfkeadifmjbodaadoor", sum := "e9507bf23a0cd0946e7b13d034449ea4be56c9ee4c7870b8cec707b6141ba273", func := "loop.example/g01095/laws.FnExactReadFrame", spec := "fnExactReadFrame", inPlace := ["internal/bytealg.IndexByteString", "internal/bytealg.IndexString"], unfollowed := true, recurses := true, named := ["internal/bytealg.MaxLen", "strconv.ErrSyntax", "strconv.ErrRange", "internal/strconv.uint64pow10", "math/bits.deBruijn32tab", "math/bits.deBruijn64tab", "unicode/utf8.first", "unicode/utf8.acceptRanges"], apart := false, laid := [("math/bits.deBruijn32tab", laid_math_bits_deBruijn32tab), ("math/bits.deBruijn64tab", laid_math_bits_deBruijn64tab), ("internal/strconv.uint64pow10", laid_internal_strconv_uint64pow10), ("unicode/utf8.acceptRanges", laid_unicode_utf8_acceptRanges), ("strconv.ErrRange", laid_strconv_ErrRange), ("strconv.ErrSyntax", laid_strconv_ErrSyntax), ("unicode/utf8.first", laid_unicode_utf8_first)], narrowed := true }
def FnExactReadFrameUptoSaid : Prop := fnExactReadFrameUptoRow.holds Tryd.pinned (OpenSpec.upto fnExactReadFrameSpec)

/-- 'laws.FnExactCompleteSets', WHERE WHAT IT READS IS OF BULK AT MOST 1048576: true; the input reads as it did. -/
def fnExactCompleteSetsUptoRow : OpenClaim := { program := "ytfkeadifmjbodaadoor", sum := "e9507bf23a0cd0946e7b13d034449ea4be56c9ee4c7870b8cec707b6141ba273", func := "loop.example/g01095/laws.FnExactCompleteSets", spec := "fnExactCompleteSets", unfollowed := true, recurses := true, named := ["math/bits.deBruijn32tab"], apart := false, laid := [("math/bits.deBruijn32tab", laid_math_bits_deBruijn32tab)], narrowed := true }
def FnExactCompleteSetsUptoSaid : Prop := fnExactCompleteSetsUptoRow.holds Tryd.pinned (OpenSpec.upto fnExactCompleteSetsSpec)

/-- 'laws.FnExactPreferredSets', WHERE WHAT IT READS IS OF BULK AT MOST 1048576: true; the input reads as it did. -/
def fnExactPreferredSetsUptoRow : OpenClaim := { program := "ytfkeadifmjbodaadoor", sum := "e9507bf23a0cd0946e7b13d034449ea4be56c9ee4c7870b8cec707b6141ba273", func := "loop.example/g01095/laws.FnExactPreferredSets", spec := "fnExactPreferredSets", unfollowed := true, recurses := true, named := ["math/bits.deBruijn32tab"], apart := false, laid := [("math/bits.deBruijn32tab", laid_math_bits_deBruijn32tab)], narrowed := true }
def FnExactPreferredSetsUptoSaid : Prop := fnExactPreferredSetsUptoRow.holds Tryd.pinned (OpenSpec.upto fnExactPreferredSetsSpec)

/-- 'laws.FnExactStableSets', WHERE WHAT IT READS IS OF BULK AT MOST 1048576: true; the input reads as it did. -/
def fnExactStableSetsUptoRow : OpenClaim := { program := "ytfkeadifmjbodaadoor", sum := "e9507bf23a0cd0946e7b13d034449ea4be56c9ee4c7870b8cec707b6141ba273", func := "loop.example/g01095/laws.FnExactStableSets", spec := "fnExactStableSets", unfollowed := true, recurses := true, named := ["math/bits.deBruijn32tab"], apart := false, laid := [("math/bits.deBruijn32tab", laid_math_bits_deBruijn32tab)], narrowed := true }
def FnExactStableSetsUptoSaid : Prop := fnExactStableSetsUptoRow.holds Tryd.pinned (OpenSpec.upto fnExactStableSetsSpec)

/-- 'laws.FnExactIdealSet', WHERE WHAT IT READS IS OF BULK AT MOST 1048576: true; the input reads as it did. -/
def fnExactIdealSetUptoRow : OpenClaim := { program := "ytfkeadifmjbodaadoor", sum := "e9507bf23a0cd0946e7b13d034449ea4be56c9ee4c7870b8cec707b6141ba273", func := "loop.example/g01095/laws.FnExactIdealSet", spec := "fnExactIdealSet", unfollowed := true, recurses := true, named := ["math/bits.deBruijn32tab"], apart := false, laid := [("math/bits.deBruijn32tab", laid_math_bits_deBruijn32tab)], narrowed := true }
def FnExactIdealSetUptoSaid : Prop := fnExactIdealSetUptoRow.holds Tryd.pinned (OpenSpec.upto fnExactIdealSetSpec)

/-- 'laws.FnExactStandingOf', WHERE WHAT IT READS IS OF BULK AT MOST 1048576: true; the input reads as it did. -/
def fnExactStandingOfUptoRow : OpenClaim := { program := "ytfkeadifmjbodaadoor", sum := "e9507bf23a0cd0946e7b13d034449ea4be56c9ee4c7870b8cec707b6141ba273", func := "loop.example/g01095/laws.FnExactStandingOf", spec := "fnExactStandingOf", unfollowed := true, recurses := true, named := ["math/bits.deBruijn32tab"], apart := false, laid := [("math/bits.deBruijn32tab", laid_math_bits_deBruijn32tab)], narrowed := true }
def FnExactStandingOfUptoSaid : Prop := fnExactStandingOfUptoRow.holds Tryd.pinned (OpenSpec.upto fnExactStandingOfSpec)

/-- 'laws.FnExactDefenceOf', WHERE WHAT IT READS IS OF BULK AT MOST 1048576: true; the input reads as it did. -/
def fnExactDefenceOfUptoRow : OpenClaim := { program := "ytfkeadifmjbodaadoor", sum := "e9507bf23a0cd0946e7b13d034449ea4be56c9ee4c7870b8cec707b6141ba273", func := "loop.example/g01095/laws.FnExactDefenceOf", spec := "fnExactDefenceOf", unfollowed := true, recurses := true, named := ["math/bits.deBruijn32tab"], apart := false, laid := [("math/bits.deBruijn32tab", laid_math_bits_deBruijn32tab)], narrowed := true }
def FnExactDefenceOfUptoSaid : Prop := fnExactDefenceOfUptoRow.holds Tryd.pinned (OpenSpec.upto fnExactDefenceOfSpec)

/-- 'laws.FnExactStrategyFor', WHERE WHAT IT READS IS OF BULK AT MOST 1048576: true; the input reads as it did. -/
def fnExactStrategyForUptoRow : OpenClaim := { program := "ytfkeadifmjbodaadoor", sum := "e9507bf23a0cd0946e7b13d034449ea4be56c9ee4c7870b8cec707b6141ba273", func := "loop.example/g01095/laws.FnExactStrategyFor", spec := "fnExactStrategyFor", unfollowed := true, recurses := true, named := ["math/bits.deBruijn32tab"], apart := false, laid := [("math/bits.deBruijn32tab", laid_math_bits_deBruijn32tab)], narrowed := true }
def FnExactStrategyForUptoSaid : Prop := fnExactStrategyForUptoRow.holds Tryd.pinned (OpenSpec.upto fnExactStrategyForSpec)

end Rows
end Go.Proofs.YtfkeadifmjbodaaDoor

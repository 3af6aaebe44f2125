/-
  NARROWER THAN 'FOR EVERY INPUT', by the rows' own cells (each row's printed sentence says how): FnExactAttackersOf: laid · FnExactDefendedBy: laid · FnExactRoundsOf: laid · FnExactGroundedSet: laid · FnExactReductOf: laid.
  DERIVED. THE GIVEN ROWS OF THIS SEAT. 5 by the template 'for every input the law returns true; each argument reads behind the call as it read before'; 0 by the template 'total and deterministic' (their statements: YthffhllkfadejaaDoorTotals.lean).
  GIVEN WITH THE SEED: the statements are not yours to turn. If you find one false, say at which input.
  Laid BY PROGRAM, IN A SANDBOX (cutbox-rows.mjs): the forced cells as the released guide's own fill.sh prints them over the translation 7089cc717e289989… (all of the seat's roots in one cut). By AI agents, Wed Nov 11 2026. No macro, syntax, notation, axiom, sorry.
-/
import Derived.Test.YthffhllkfadejaaDoorChecked
import GoSem.Claim
import GoSem.ClaimJoined
import GoSem.ClaimMapViews
import Derived.JoinedTies
import Derived.KernelRfl
namespace Go.Proofs.YthffhllkfadejaaDoor
/- THE CELL 'sum', in the pinned program and in every row, IS THE sha256 OF THE DUMP (.gsa) THAT YthffhllkfadejaaDoorProg.lean LOADS. Nothing in Lean hashes anything: it is a label: what it is worth is what the hold of that sum in a sandbox is worth. -/
noncomputable def Tryd.pinned : Pinned := { name := "ythffhllkfadejaadoor", sum := "7089cc717e2899894d6cd4880e8c9ef18639196ff9193e9b4ffb0736ce34497f", checked := Tryd.checked }
namespace Rows
def none {H : Type} : Left H := { results := [], args := [] }

/- WHAT THE LISTED PACKAGE-LEVEL VARIABLES READ AS WHEN THE CALL BEGINS. Each datum BY PROGRAM (the guide's laid-datum.mjs) off the statement by which the dump's own 'gosem.cut.vars' lays the variable. In a bare row this is a premise. The card (YthffhllkfadejaaDoorCards.lean) ties it to the program's text. -/
def laid_math_bits_deBruijn32tab {H : Type} : DataW H := .agg [.lit (.int .u8 0), .lit (.int .u8 1), .lit (.int .u8 28), .lit (.int .u8 2), .lit (.int .u8 29), .lit (.int .u8 14), .lit (.int .u8 24), .lit (.int .u8 3), .lit (.int .u8 30), .lit (.int .u8 22), .lit (.int .u8 20), .lit (.int .u8 15), .lit (.int .u8 25), .lit (.int .u8 17), .lit (.int .u8 4), .lit (.int .u8 8), .lit (.int .u8 31), .lit (.int .u8 27), .lit (.int .u8 13), .lit (.int .u8 23), .lit (.int .u8 21), .lit (.int .u8 19), .lit (.int .u8 16), .lit (.int .u8 7), .lit (.int .u8 26), .lit (.int .u8 12), .lit (.int .u8 18), .lit (.int .u8 6), .lit (.int .u8 11), .lit (.int .u8 5), .lit (.int .u8 10), .lit (.int .u8 9)]

/-- 'laws.FnExactAttackersOf': WHATEVER THE INPUT: true; the input reads as it did. -/
def fnExactAttackersOfSpec : ChangeSpec := { name := "fnExactAttackersOf", fn := fun _ => fun
  | [d1, d2] => { results := [.lit (.bool true)], args := [d1, d2] }
  | _ => none }
def fnExactAttackersOfRow : OpenClaim := { program := "ythffhllkfadejaadoor", sum := "7089cc717e2899894d6cd4880e8c9ef18639196ff9193e9b4ffb0736ce34497f", func := "loop.example/g01095/laws.FnExactAttackersOf", spec := "fnExactAttackersOf", unfollowed := true, recurses := true, named := ["math/bits.deBruijn32tab"], apart := false, laid := [("math/bits.deBruijn32tab", laid_math_bits_deBruijn32tab)] }
def FnExactAttackersOfSaid : Prop := fnExactAttackersOfRow.holds Tryd.pinned (OpenSpec.ofChange fnExactAttackersOfSpec)

/-- ITS FALSE NEIGHBOUR: 'it returns false'. Refute it at one input. -/
def fnExactAttackersOfWrong : ChangeSpec := { name := "fnExactAttackersOf", fn := fun _ => fun
  | [d1, d2] => { results := [.lit (.bool false)], args := [d1, d2] }
  | _ => none }
def FnExactAttackersOfWrongFalsely : Prop := fnExactAttackersOfRow.holds Tryd.pinned (OpenSpec.ofChange fnExactAttackersOfWrong)

/-- 'laws.FnExactDefendedBy': WHATEVER THE INPUT: true; the input reads as it did. -/
def fnExactDefendedBySpec : ChangeSpec := { name := "fnExactDefendedBy", fn := fun _ => fun
  | [d1, d2] => { results := [.lit (.bool true)], args := [d1, d2] }
  | _ => none }
def fnExactDefendedByRow : OpenClaim := { program := "ythffhllkfadejaadoor", sum := "7089cc717e2899894d6cd4880e8c9ef18639196ff9193e9b4ffb0736ce34497f", func := "loop.example/g01095/laws.FnExactDefendedBy", spec := "fnExactDefendedBy", unfollowed := true, recurses := true, named := ["math/bits.deBruijn32tab"], apart := false, laid := [("math/bits.deBruijn32tab", laid_math_bits_deBruijn32tab)] }
def FnExactDefendedBySaid : Prop := fnExactDefendedByRow.holds Tryd.pinned (OpenSpec.ofChange fnExactDefendedBySpec)

/-- ITS FALSE NEIGHBOUR: 'it returns false'. Refute it at one input. -/
def fnExactDefendedByWrong : ChangeSpec := { name := "fnExactDefendedBy", fn := fun _ => fun
  | [d1, d2] => { results := [.lit (.bool false)], args := [d1, d2] }
  | _ => none }
def FnExactDefendedByWrongFalsely : Prop := fnExactDefendedByRow.holds Tryd.pinned (OpenSpec.ofChange fnExactDefendedByWrong)

/-- 'laws.FnExactRoundsOf': WHATEVER THE INPUT: true; the input reads as it did. -/
def fnExactRoundsOfSpec : ChangeSpec := { name := "fnExactRoundsOf", fn := fun _ => fun
  | [d] => { results := [.lit (.bool true)], args := [d] }
  | _ => none }
def fnExactRoundsOfRow : OpenClaim := { program := "ythffhllkfadejaadoor", sum := "7089cc717e2899894d6cd4880e8c9ef18639196ff9193e9b4ffb0736ce34497f", func := "loop.example/g01095/laws.FnExactRoundsOf", spec := "fnExactRoundsOf", unfollowed := true, recurses := true, named := ["math/bits.deBruijn32tab"], apart := false, laid := [("math/bits.deBruijn32tab", laid_math_bits_deBruijn32tab)] }
def FnExactRoundsOfSaid : Prop := fnExactRoundsOfRow.holds Tryd.pinned (OpenSpec.ofChange fnExactRoundsOfSpec)

/-- ITS FALSE NEIGHBOUR: 'it returns false'. Refute it at one input. -/
def fnExactRoundsOfWrong : ChangeSpec := { name := "fnExactRoundsOf", fn := fun _ => fun
  | [d] => { results := [.lit (.bool false)], args := [d] }
  | _ => none }
def FnExactRoundsOfWrongFalsely : Prop := fnExactRoundsOfRow.holds Tryd.pinned (OpenSpec.ofChange fnExactRoundsOfWrong)

/-- 'laws.FnExactGroundedSet': WHATEVER THE INPUT: true; the input reads as it did. -/
def fnExactGroundedSetSpec : ChangeSpec := { name := "fnExactGroundedSet", fn := fun _ => fun
  | [d] => { results := [.lit (.bool true)], args := [d] }
  | _ => none }
def fnExactGroundedSetRow : OpenClaim := { program := "ythffhllkfadejaadoor", sum := "7089cc717e2899894d6cd4880e8c9ef18639196ff9193e9b4ffb0736ce34497f", func := "loop.example/g01095/laws.FnExactGroundedSet", spec := "fnExactGroundedSet", unfollowed := true, recurses := true, named := ["math/bits.deBruijn32tab"], apart := false, laid := [("math/bits.deBruijn32tab", laid_math_bits_deBruijn32tab)] }
def FnExactGroundedSetSaid : Prop := fnExactGroundedSetRow.holds Tryd.pinned (OpenSpec.ofChange fnExactGroundedSetSpec)

/-- ITS FALSE NEIGHBOUR: 'it returns false'. Refute it at one input. -/
def fnExactGroundedSetWrong : ChangeSpec := { name := "fnExactGroundedSet", fn := fun _ => fun
  | [d] => { results := [.lit (.bool false)], args := [d] }
  | _ => none }
def FnExactGroundedSetWrongFalsely : Prop := fnExactGroundedSetRow.holds Tryd.pinned (OpenSpec.ofChange fnExactGroundedSetWrong)

/-- 'laws.FnExactReductOf': WHATEVER THE INPUT: true; the input reads as it did. -/
def fnExactReductOfSpec : ChangeSpec := { name := "fnExactReductOf", fn := fun _ => fun
  | [d1, d2] => { results := [.lit (.bool true)], args := [d1, d2] }
  | _ => none }
def fnExactReductOfRow : OpenClaim := { program := "ythffhllkfadejaadoor", sum := "7089cc717e2899894d6cd4880e8c9ef18639196ff9193e9b4ffb0736ce34497f", func := "loop.example/g01095/laws.FnExactReductOf", spec := "fnExactReductOf", unfollowed := true, recurses := true, named := ["math/bits.deBruijn32tab"], apart := false, laid := [("math/bits.deBruijn32tab", laid_math_bits_deBruijn32tab)] }
def FnExactReductOfSaid : Prop := fnExactReductOfRow.holds Tryd.pinned (OpenSpec.ofChange fnExactReductOfSpec)

/-- ITS FALSE NEIGHBOUR: 'it returns false'. Refute it at one input. -/
def fnExactReductOfWrong : ChangeSpec := { name := "fnExactReductOf", fn := fun _ => fun
  | [d1, d2] => { results := [.lit (.bool false)], args := [d1, d2] }
  | _ => none }
def FnExactReductOfWrongFalsely : Prop := fnExactReductOfRow.holds Tryd.pinned (OpenSpec.ofChange fnExactReductOfWrong)

/- THE SECOND FORM. 'bulk': how many values and letters a reading holds, each counted each time it is reached (what is shared counts as often as it is met; a slice's spare places count too). A statement '..UptoSaid' is the law's where the arguments, and the package variables that the reading takes, are together of bulk at most 1048576: NARROWER than '..Said'. Prove '..Said' where nothing that the law and all that it calls make is longer than what came in: it says more and counts as full. Else prove '..UptoSaid'. A law counts once. -/
mutual
def uptoBulk {H : Type} : DataW H → Nat
  | .lit (.string bytes) => bytes.length + 1
  | .lit _ => 1
  | .nil => 1
  | .ptr d => uptoBulk d + 1
  | .slice elems spare => uptoBulkAll elems + uptoBulkAll spare + 1
  | .agg parts => uptoBulkAll parts + 1
  | .iface _ d => uptoBulk d + 1
  | .map entries => uptoBulkEntries entries + 1
  | .held _ => 1
def uptoBulkAll {H : Type} : List (DataW H) → Nat
  | [] => 0
  | d :: r => uptoBulk d + uptoBulkAll r
def uptoBulkEntries {H : Type} : List (Lit × DataW H) → Nat
  | [] => 0
  | x :: r => uptoBulkEntry x + uptoBulkEntries r
def uptoBulkEntry {H : Type} : Lit × DataW H → Nat
  | (.string bytes, d) => bytes.length + uptoBulk d + 1
  | (_, d) => uptoBulk d + 1
 end
def uptoSmall : (H : Type) → List (DataW H) → Bool := fun _ ds => decide (uptoBulkAll ds ≤ 1048576)
def OpenSpec.upto (s : _root_.Go.ChangeSpec) : _root_.Go.OpenSpec := { _root_.Go.OpenSpec.ofChange s with cond := some uptoSmall }

/-- 'laws.FnExactAttackersOf', WHERE WHAT IT READS IS OF BULK AT MOST 1048576: true; the input reads as it did. -/
def fnExactAttackersOfUptoRow : OpenClaim := { program := "ythffhllkfadejaadoor", sum := "7089cc717e2899894d6cd4880e8c9ef18639196ff9193e9b4ffb0736ce34497f", func := "loop.example/g01095/laws.FnExactAttackersOf", spec := "fnExactAttackersOf", unfollowed := true, recurses := true, named := ["math/bits.deBruijn32tab"], apart := false, laid := [("math/bits.deBruijn32tab", laid_math_bits_deBruijn32tab)], narrowed := true }
def FnExactAttackersOfUptoSaid : Prop := fnExactAttackersOfUptoRow.holds Tryd.pinned (OpenSpec.upto fnExactAttackersOfSpec)

/-- 'laws.FnExactDefendedBy', WHERE WHAT IT READS IS OF BULK AT MOST 1048576: true; the input reads as it did. -/
def fnExactDefendedByUptoRow : OpenClaim := { program := "ythffhllkfadejaadoor", sum := "7089cc717e2899894d6cd4880e8c9ef18639196ff9193e9b4ffb0736ce34497f", func := "loop.example/g01095/laws.FnExactDefendedBy", spec := "fnExactDefendedBy", unfollowed := true, recurses := true, named := ["math/bits.deBruijn32tab"], apart := false, laid := [("math/bits.deBruijn32tab", laid_math_bits_deBruijn32tab)], narrowed := true }
def FnExactDefendedByUptoSaid : Prop := fnExactDefendedByUptoRow.holds Tryd.pinned (OpenSpec.upto fnExactDefendedBySpec)

/-- 'laws.FnExactRoundsOf', WHERE WHAT IT READS IS OF BULK AT MOST 1048576: true; the input reads as it did. -/
def fnExactRoundsOfUptoRow : OpenClaim := { program := "ythffhllkfadejaadoor", sum := "7089cc717e2899894d6cd4880e8c9ef18639196ff9193e9b4ffb0736ce34497f", func := "loop.example/g01095/laws.FnExactRoundsOf", spec := "fnExactRoundsOf", unfollowed := true, recurses := true, named := ["math/bits.deBruijn32tab"], apart := false, laid := [("math/bits.deBruijn32tab", laid_math_bits_deBruijn32tab)], narrowed := true }
def FnExactRoundsOfUptoSaid : Prop := fnExactRoundsOfUptoRow.holds Tryd.pinned (OpenSpec.upto fnExactRoundsOfSpec)

/-- 'laws.FnExactGroundedSet', WHERE WHAT IT READS IS OF BULK AT MOST 1048576: true; the input reads as it did. -/
def fnExactGroundedSetUptoRow : OpenClaim := { program := "ythffhllkfadejaadoor", sum := "7089cc717e2899894d6cd4880e8c9ef18639196ff9193e9b4ffb0736ce34497f", func := "loop.example/g01095/laws.FnExactGroundedSet", spec := "fnExactGroundedSet", unfollowed := true, recurses := true, named := ["math/bits.deBruijn32tab"], apart := false, laid := [("math/bits.deBruijn32tab", laid_math_bits_deBruijn32tab)], narrowed := true }
def FnExactGroundedSetUptoSaid : Prop := fnExactGroundedSetUptoRow.holds Tryd.pinned (OpenSpec.upto fnExactGroundedSetSpec)

/-- 'laws.FnExactReductOf', WHERE WHAT IT READS IS OF BULK AT MOST 1048576: true; the input reads as it did. -/
def fnExactReductOfUptoRow : OpenClaim := { program := "ythffhllkfadejaadoor", sum := "7089cc717e2899894d6cd4880e8c9ef18639196ff9193e9b4ffb0736ce34497f", func := "loop.example/g01095/laws.FnExactReductOf", spec := "fnExactReductOf", unfollowed := true, recurses := true, named := ["math/bits.deBruijn32tab"], apart := false, laid := [("math/bits.deBruijn32tab", laid_math_bits_deBruijn32tab)], narrowed := true }
def FnExactReductOfUptoSaid : Prop := fnExactReductOfUptoRow.holds Tryd.pinned (OpenSpec.upto fnExactReductOfSpec)

end Rows
end Go.Proofs.YthffhllkfadejaaDoor

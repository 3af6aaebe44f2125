/-
  No cell of these rows narrows 'for every input' (looked for: loops, veiled, ifaces, maps, wideKeys, modest, calm, conditions, laid).
  DERIVED. THE GIVEN ROWS OF THIS SEAT. 10 by the template 'for every input the law returns true; each argument reads behind the call as it read before'; 0 by the template 'total and deterministic' (their statements: YtlpidgdlbannbaaTotals.lean).
  GIVEN WITH THE SEED: the statements are not yours to turn. If you find one false, say at which input.
  Laid BY PROGRAM, IN A SANDBOX (cutbox-rows.mjs): the forced cells as the released guide's own fill.sh prints them over the translation ff0cbaa9e1b0ad03… (all of the seat's roots in one cut). By AI agents, Wed Nov 11 2026. No macro, syntax, notation, axiom, sorry.
-/
import Derived.Test.YtlpidgdlbannbaaChecked
import GoSem.Claim
import GoSem.ClaimJoined
import GoSem.ClaimMapViews
import Derived.JoinedTies
import Derived.KernelRfl
namespace Go.Proofs.Ytlpidgdlbannbaa
/- THE CELL 'sum', in the pinned program and in every row, IS THE sha256 OF THE DUMP (.gsa) THAT YtlpidgdlbannbaaProg.lean LOADS. Nothing in Lean hashes anything: it is a label: what it is worth is what the hold of that sum in a sandbox is worth. -/
noncomputable def Try.pinned : Pinned := { name := "ytlpidgdlbannbaa", sum := "ff0cbaa9e1b0ad03230200c987d03ac7e0404d87639b5bc35384521f1a22184f", checked := Try.checked }
namespace Rows
def none {H : Type} : Left H := { results := [], args := [] }

/-- 'laws.FnExactValidVoices': WHATEVER THE INPUT: true; the input reads as it did. -/
def fnExactValidVoicesSpec : ChangeSpec := { name := "fnExactValidVoices", fn := fun _ => fun
  | [d] => { results := [.lit (.bool true)], args := [d] }
  | _ => none }
def fnExactValidVoicesRow : OpenClaim := { program := "ytlpidgdlbannbaa", sum := "ff0cbaa9e1b0ad03230200c987d03ac7e0404d87639b5bc35384521f1a22184f", func := "loop.example/g01095/laws.FnExactValidVoices", spec := "fnExactValidVoices", apart := false }
def FnExactValidVoicesSaid : Prop := fnExactValidVoicesRow.holds Try.pinned (OpenSpec.ofChange fnExactValidVoicesSpec)

/-- ITS FALSE NEIGHBOUR: 'it returns false'. Refute it at one input. -/
def fnExactValidVoicesWrong : ChangeSpec := { name := "fnExactValidVoices", fn := fun _ => fun
  | [d] => { results := [.lit (.bool false)], args := [d] }
  | _ => none }
def FnExactValidVoicesWrongFalsely : Prop := fnExactValidVoicesRow.holds Try.pinned (OpenSpec.ofChange fnExactValidVoicesWrong)

/-- 'laws.FnExactIsPath': WHATEVER THE INPUT: true; the input reads as it did. -/
def fnExactIsPathSpec : ChangeSpec := { name := "fnExactIsPath", fn := fun _ => fun
  | [d1, d2] => { results := [.lit (.bool true)], args := [d1, d2] }
  | _ => none }
def fnExactIsPathRow : OpenClaim := { program := "ytlpidgdlbannbaa", sum := "ff0cbaa9e1b0ad03230200c987d03ac7e0404d87639b5bc35384521f1a22184f", func := "loop.example/g01095/laws.FnExactIsPath", spec := "fnExactIsPath", apart := false }
def FnExactIsPathSaid : Prop := fnExactIsPathRow.holds Try.pinned (OpenSpec.ofChange fnExactIsPathSpec)

/-- ITS FALSE NEIGHBOUR: 'it returns false'. Refute it at one input. -/
def fnExactIsPathWrong : ChangeSpec := { name := "fnExactIsPath", fn := fun _ => fun
  | [d1, d2] => { results := [.lit (.bool false)], args := [d1, d2] }
  | _ => none }
def FnExactIsPathWrongFalsely : Prop := fnExactIsPathRow.holds Try.pinned (OpenSpec.ofChange fnExactIsPathWrong)

/-- 'laws.FnExactRanksOf': WHATEVER THE INPUT: true; the input reads as it did. -/
def fnExactRanksOfSpec : ChangeSpec := { name := "fnExactRanksOf", fn := fun _ => fun
  | [d1, d2] => { results := [.lit (.bool true)], args := [d1, d2] }
  | _ => none }
def fnExactRanksOfRow : OpenClaim := { program := "ytlpidgdlbannbaa", sum := "ff0cbaa9e1b0ad03230200c987d03ac7e0404d87639b5bc35384521f1a22184f", func := "loop.example/g01095/laws.FnExactRanksOf", spec := "fnExactRanksOf", apart := false }
def FnExactRanksOfSaid : Prop := fnExactRanksOfRow.holds Try.pinned (OpenSpec.ofChange fnExactRanksOfSpec)

/-- ITS FALSE NEIGHBOUR: 'it returns false'. Refute it at one input. -/
def fnExactRanksOfWrong : ChangeSpec := { name := "fnExactRanksOf", fn := fun _ => fun
  | [d1, d2] => { results := [.lit (.bool false)], args := [d1, d2] }
  | _ => none }
def FnExactRanksOfWrongFalsely : Prop := fnExactRanksOfRow.holds Try.pinned (OpenSpec.ofChange fnExactRanksOfWrong)

/-- 'laws.FnExactComparePaths': WHATEVER THE INPUT: true; the input reads as it did. -/
def fnExactComparePathsSpec : ChangeSpec := { name := "fnExactComparePaths", fn := fun _ => fun
  | [d1, d2, d3, d4] => { results := [.lit (.bool true)], args := [d1, d2, d3, d4] }
  | _ => none }
def fnExactComparePathsRow : OpenClaim := { program := "ytlpidgdlbannbaa", sum := "ff0cbaa9e1b0ad03230200c987d03ac7e0404d87639b5bc35384521f1a22184f", func := "loop.example/g01095/laws.FnExactComparePaths", spec := "fnExactComparePaths", unfollowed := true, recurses := true, apart := false }
def FnExactComparePathsSaid : Prop := fnExactComparePathsRow.holds Try.pinned (OpenSpec.ofChange fnExactComparePathsSpec)

/-- ITS FALSE NEIGHBOUR: 'it returns false'. Refute it at one input. -/
def fnExactComparePathsWrong : ChangeSpec := { name := "fnExactComparePaths", fn := fun _ => fun
  | [d1, d2, d3, d4] => { results := [.lit (.bool false)], args := [d1, d2, d3, d4] }
  | _ => none }
def FnExactComparePathsWrongFalsely : Prop := fnExactComparePathsRow.holds Try.pinned (OpenSpec.ofChange fnExactComparePathsWrong)

/-- 'laws.FnExactFirstCircles': WHATEVER THE INPUT: true; the input reads as it did. -/
def fnExactFirstCirclesSpec : ChangeSpec := { name := "fnExactFirstCircles", fn := fun _ => fun
  | [d] => { results := [.lit (.bool true)], args := [d] }
  | _ => none }
def fnExactFirstCirclesRow : OpenClaim := { program := "ytlpidgdlbannbaa", sum := "ff0cbaa9e1b0ad03230200c987d03ac7e0404d87639b5bc35384521f1a22184f", func := "loop.example/g01095/laws.FnExactFirstCircles", spec := "fnExactFirstCircles", apart := false }
def FnExactFirstCirclesSaid : Prop := fnExactFirstCirclesRow.holds Try.pinned (OpenSpec.ofChange fnExactFirstCirclesSpec)

/-- ITS FALSE NEIGHBOUR: 'it returns false'. Refute it at one input. -/
def fnExactFirstCirclesWrong : ChangeSpec := { name := "fnExactFirstCircles", fn := fun _ => fun
  | [d] => { results := [.lit (.bool false)], args := [d] }
  | _ => none }
def FnExactFirstCirclesWrongFalsely : Prop := fnExactFirstCirclesRow.holds Try.pinned (OpenSpec.ofChange fnExactFirstCirclesWrong)

/-- 'laws.FnExactLostMembers': WHATEVER THE INPUT: true; the input reads as it did. -/
def fnExactLostMembersSpec : ChangeSpec := { name := "fnExactLostMembers", fn := fun _ => fun
  | [d] => { results := [.lit (.bool true)], args := [d] }
  | _ => none }
def fnExactLostMembersRow : OpenClaim := { program := "ytlpidgdlbannbaa", sum := "ff0cbaa9e1b0ad03230200c987d03ac7e0404d87639b5bc35384521f1a22184f", func := "loop.example/g01095/laws.FnExactLostMembers", spec := "fnExactLostMembers", unfollowed := true, recurses := true, apart := false }
def FnExactLostMembersSaid : Prop := fnExactLostMembersRow.holds Try.pinned (OpenSpec.ofChange fnExactLostMembersSpec)

/-- ITS FALSE NEIGHBOUR: 'it returns false'. Refute it at one input. -/
def fnExactLostMembersWrong : ChangeSpec := { name := "fnExactLostMembers", fn := fun _ => fun
  | [d] => { results := [.lit (.bool false)], args := [d] }
  | _ => none }
def FnExactLostMembersWrongFalsely : Prop := fnExactLostMembersRow.holds Try.pinned (OpenSpec.ofChange fnExactLostMembersWrong)

/-- 'laws.FnExactSilenceMember': WHATEVER THE INPUT: true; the input reads as it did. -/
def fnExactSilenceMemberSpec : ChangeSpec := { name := "fnExactSilenceMember", fn := fun _ => fun
  | [d1, d2] => { results := [.lit (.bool true)], args := [d1, d2] }
  | _ => none }
def fnExactSilenceMemberRow : OpenClaim := { program := "ytlpidgdlbannbaa", sum := "ff0cbaa9e1b0ad03230200c987d03ac7e0404d87639b5bc35384521f1a22184f", func := "loop.example/g01095/laws.FnExactSilenceMember", spec := "fnExactSilenceMember", apart := false }
def FnExactSilenceMemberSaid : Prop := fnExactSilenceMemberRow.holds Try.pinned (OpenSpec.ofChange fnExactSilenceMemberSpec)

/-- ITS FALSE NEIGHBOUR: 'it returns false'. Refute it at one input. -/
def fnExactSilenceMemberWrong : ChangeSpec := { name := "fnExactSilenceMember", fn := fun _ => fun
  | [d1, d2] => { results := [.lit (.bool false)], args := [d1, d2] }
  | _ => none }
def FnExactSilenceMemberWrongFalsely : Prop := fnExactSilenceMemberRow.holds Try.pinned (OpenSpec.ofChange fnExactSilenceMemberWrong)

/-- 'laws.FnExactUnitShares': WHATEVER THE INPUT: true; the input reads as it did. -/
def fnExactUnitSharesSpec : ChangeSpec := { name := "fnExactUnitShares", fn := fun _ => fun
  | [d] => { results := [.lit (.bool true)], args := [d] }
  | _ => none }
def fnExactUnitSharesRow : OpenClaim := { program := "ytlpidgdlbannbaa", sum := "ff0cbaa9e1b0ad03230200c987d03ac7e0404d87639b5bc35384521f1a22184f", func := "loop.example/g01095/laws.FnExactUnitShares", spec := "fnExactUnitShares", apart := false }
def FnExactUnitSharesSaid : Prop := fnExactUnitSharesRow.holds Try.pinned (OpenSpec.ofChange fnExactUnitSharesSpec)

/-- ITS FALSE NEIGHBOUR: 'it returns false'. Refute it at one input. -/
def fnExactUnitSharesWrong : ChangeSpec := { name := "fnExactUnitShares", fn := fun _ => fun
  | [d] => { results := [.lit (.bool false)], args := [d] }
  | _ => none }
def FnExactUnitSharesWrongFalsely : Prop := fnExactUnitSharesRow.holds Try.pinned (OpenSpec.ofChange fnExactUnitSharesWrong)

/-- 'laws.FnExactReachedFrom': WHATEVER THE INPUT: true; the input reads as it did. -/
def fnExactReachedFromSpec : ChangeSpec := { name := "fnExactReachedFrom", fn := fun _ => fun
  | [d1, d2] => { results := [.lit (.bool true)], args := [d1, d2] }
  | _ => none }
def fnExactReachedFromRow : OpenClaim := { program := "ytlpidgdlbannbaa", sum := "ff0cbaa9e1b0ad03230200c987d03ac7e0404d87639b5bc35384521f1a22184f", func := "loop.example/g01095/laws.FnExactReachedFrom", spec := "fnExactReachedFrom", unfollowed := true, recurses := true, apart := false }
def FnExactReachedFromSaid : Prop := fnExactReachedFromRow.holds Try.pinned (OpenSpec.ofChange fnExactReachedFromSpec)

/-- ITS FALSE NEIGHBOUR: 'it returns false'. Refute it at one input. -/
def fnExactReachedFromWrong : ChangeSpec := { name := "fnExactReachedFrom", fn := fun _ => fun
  | [d1, d2] => { results := [.lit (.bool false)], args := [d1, d2] }
  | _ => none }
def FnExactReachedFromWrongFalsely : Prop := fnExactReachedFromRow.holds Try.pinned (OpenSpec.ofChange fnExactReachedFromWrong)

/-- 'laws.FnExactTakeBack': WHATEVER THE INPUT: true; the input reads as it did. -/
def fnExactTakeBackSpec : ChangeSpec := { name := "fnExactTakeBack", fn := fun _ => fun
  | [d1, d2] => { results := [.lit (.bool true)], args := [d1, d2] }
  | _ => none }
def fnExactTakeBackRow : OpenClaim := { program := "ytlpidgdlbannbaa", sum := "ff0cbaa9e1b0ad03230200c987d03ac7e0404d87639b5bc35384521f1a22184f", func := "loop.example/g01095/laws.FnExactTakeBack", spec := "fnExactTakeBack", apart := false }
def FnExactTakeBackSaid : Prop := fnExactTakeBackRow.holds Try.pinned (OpenSpec.ofChange fnExactTakeBackSpec)

/-- ITS FALSE NEIGHBOUR: 'it returns false'. Refute it at one input. -/
def fnExactTakeBackWrong : ChangeSpec := { name := "fnExactTakeBack", fn := fun _ => fun
  | [d1, d2] => { results := [.lit (.bool false)], args := [d1, d2] }
  | _ => none }
def FnExactTakeBackWrongFalsely : Prop := fnExactTakeBackRow.holds Try.pinned (OpenSpec.ofChange fnExactTakeBackWrong)

/- THE SECOND FORM. 'bulk': how many values and letters a reading holds, each counted each time it is reached (what is shared counts as often as it is met; a slice's spare places count too). A statement '..UptoSaid' is the law's where the arguments, and the package variables that the reading takes, are together of bulk at most 1048576: NARROWER than '..Said'. Prove '..Said' where nothing that the law and all that it calls make is longer than what came in: it says more and counts as full. Else prove '..UptoSaid'. A law counts once. -/
mutual
def uptoBulk {H : Type} : DataW H → Nat
  | .lit (.string bytes) => bytes.length + 1
  | .lit _ => 1
  | .nil => 1
  | .ptr d => uptoBulk d + 1
  | .slice elems spare => uptoBulkAll elems + uptoBulkAll spare + 1
  | .agg parts => uptoBulkAll parts + 1
  | .iface _ d => uptoBulk d + 1
  | .map entries => uptoBulkEntries entries + 1
  | .held _ => 1
def uptoBulkAll {H : Type} : List (DataW H) → Nat
  | [] => 0
  | d :: r => uptoBulk d + uptoBulkAll r
def uptoBulkEntries {H : Type} : List (Lit × DataW H) → Nat
  | [] => 0
  | x :: r => uptoBulkEntry x + uptoBulkEntries r
def uptoBulkEntry {H : Type} : Lit × DataW H → Nat
  | (.string bytes, d) => bytes.length + uptoBulk d + 1
  | (_, d) => uptoBulk d + 1
 end
def uptoSmall : (H : Type) → List (DataW H) → Bool := fun _ ds => decide (uptoBulkAll ds ≤ 1048576)
def OpenSpec.upto (s : _root_.Go.ChangeSpec) : _root_.Go.OpenSpec := { _root_.Go.OpenSpec.ofChange s with cond := some uptoSmall }

/-- 'laws.FnExactValidVoices', WHERE WHAT IT READS IS OF BULK AT MOST 1048576: true; the input reads as it did. -/
def fnExactValidVoicesUptoRow : OpenClaim := { program := "ytlpidgdlbannbaa", sum := "ff0cbaa9e1b0ad03230200c987d03ac7e0404d87639b5bc35384521f1a22184f", func := "loop.example/g01095/laws.FnExactValidVoices", spec := "fnExactValidVoices", apart := false, narrowed := true }
def FnExactValidVoicesUptoSaid : Prop := fnExactValidVoicesUptoRow.holds Try.pinned (OpenSpec.upto fnExactValidVoicesSpec)

/-- 'laws.FnExactIsPath', WHERE WHAT IT READS IS OF BULK AT MOST 1048576: true; the input reads as it did. -/
def fnExactIsPathUptoRow : OpenClaim := { program := "ytlpidgdlbannbaa", sum := "ff0cbaa9e1b0ad03230200c987d03ac7e0404d87639b5bc35384521f1a22184f", func := "loop.example/g01095/laws.FnExactIsPath", spec := "fnExactIsPath", apart := false, narrowed := true }
def FnExactIsPathUptoSaid : Prop := fnExactIsPathUptoRow.holds Try.pinned (OpenSpec.upto fnExactIsPathSpec)

/-- 'laws.FnExactRanksOf', WHERE WHAT IT READS IS OF BULK AT MOST 1048576: true; the input reads as it did. -/
def fnExactRanksOfUptoRow : OpenClaim := { program := "ytlpidgdlbannbaa", sum := "ff0cbaa9e1b0ad03230200c987d03ac7e0404d87639b5bc35384521f1a22184f", func := "loop.example/g01095/laws.FnExactRanksOf", spec := "fnExactRanksOf", apart := false, narrowed := true }
def FnExactRanksOfUptoSaid : Prop := fnExactRanksOfUptoRow.holds Try.pinned (OpenSpec.upto fnExactRanksOfSpec)

/-- 'laws.FnExactComparePaths', WHERE WHAT IT READS IS OF BULK AT MOST 1048576: true; the input reads as it did. -/
def fnExactComparePathsUptoRow : OpenClaim := { program := "ytlpidgdlbannbaa", sum := "ff0cbaa9e1b0ad03230200c987d03ac7e0404d87639b5bc35384521f1a22184f", func := "loop.example/g01095/laws.FnExactComparePaths", spec := "fnExactComparePaths", unfollowed := true, recurses := true, apart := false, narrowed := true }
def FnExactComparePathsUptoSaid : Prop := fnExactComparePathsUptoRow.holds Try.pinned (OpenSpec.upto fnExactComparePathsSpec)

/-- 'laws.FnExactFirstCircles', WHERE WHAT IT READS IS OF BULK AT MOST 1048576: true; the input reads as it did. -/
def fnExactFirstCirclesUptoRow : OpenClaim := { program := "ytlpidgdlbannbaa", sum := "ff0cbaa9e1b0ad03230200c987d03ac7e0404d87639b5bc35384521f1a22184f", func := "loop.example/g01095/laws.FnExactFirstCircles", spec := "fnExactFirstCircles", apart := false, narrowed := true }
def FnExactFirstCirclesUptoSaid : Prop := fnExactFirstCirclesUptoRow.holds Try.pinned (OpenSpec.upto fnExactFirstCirclesSpec)

/-- 'laws.FnExactLostMembers', WHERE WHAT IT READS IS OF BULK AT MOST 1048576: true; the input reads as it did. -/
def fnExactLostMembersUptoRow : OpenClaim := { program := "ytlpidgdlbannbaa", sum := "ff0cbaa9e1b0ad03230200c987d03ac7e0404d87639b5bc35384521f1a22184f", func := "loop.example/g01095/laws.FnExactLostMembers", spec := "fnExactLostMembers", unfollowed := true, recurses := true, apart := false, narrowed := true }
def FnExactLostMembersUptoSaid : Prop := fnExactLostMembersUptoRow.holds Try.pinned (OpenSpec.upto fnExactLostMembersSpec)

/-- 'laws.FnExactSilenceMember', WHERE WHAT IT READS IS OF BULK AT MOST 1048576: true; the input reads as it did. -/
def fnExactSilenceMemberUptoRow : OpenClaim := { program := "ytlpidgdlbannbaa", sum := "ff0cbaa9e1b0ad03230200c987d03ac7e0404d87639b5bc35384521f1a22184f", func := "loop.example/g01095/laws.FnExactSilenceMember", spec := "fnExactSilenceMember", apart := false, narrowed := true }
def FnExactSilenceMemberUptoSaid : Prop := fnExactSilenceMemberUptoRow.holds Try.pinned (OpenSpec.upto fnExactSilenceMemberSpec)

/-- 'laws.FnExactUnitShares', WHERE WHAT IT READS IS OF BULK AT MOST 1048576: true; the input reads as it did. -/
def fnExactUnitSharesUptoRow : OpenClaim := { program := "ytlpidgdlbannbaa", sum := "ff0cbaa9e1b0ad03230200c987d03ac7e0404d87639b5bc35384521f1a22184f", func := "loop.example/g01095/laws.FnExactUnitShares", spec := "fnExactUnitShares", apart := false, narrowed := true }
def FnExactUnitSharesUptoSaid : Prop := fnExactUnitSharesUptoRow.holds Try.pinned (OpenSpec.upto fnExactUnitSharesSpec)

/-- 'laws.FnExactReachedFrom', WHERE WHAT IT READS IS OF BULK AT MOST 1048576: true; the input reads as it did. -/
def fnExactReachedFromUptoRow : OpenClaim := { program := "ytlpidgdlbannbaa", sum := "ff0cbaa9e1b0ad03230200c987d03ac7e0404d87639b5bc35384521f1a22184f", func := "loop.example/g01095/laws.FnExactReachedFrom", spec := "fnExactReachedFrom", unfollowed := true, recurses := true, apart := false, narrowed := true }
def FnExactReachedFromUptoSaid : Prop := fnExactReachedFromUptoRow.holds Try.pinned (OpenSpec.upto fnExactReachedFromSpec)

/-- 'laws.FnExactTakeBack', WHERE WHAT IT READS IS OF BULK AT MOST 1048576: true; the input reads as it did. -/
def fnExactTakeBackUptoRow : OpenClaim := { program := "ytlpidgdlbannbaa", sum := "ff0cbaa9e1b0ad03230200c987d03ac7e0404d87639b5bc35384521f1a22184f", func := "loop.example/g01095/laws.FnExactTakeBack", spec := "fnExactTakeBack", apart := false, narrowed := true }
def FnExactTakeBackUptoSaid : Prop := fnExactTakeBackUptoRow.holds Try.pinned (OpenSpec.upto fnExactTakeBackSpec)

end Rows
end Go.Proofs.Ytlpidgdlbannbaa

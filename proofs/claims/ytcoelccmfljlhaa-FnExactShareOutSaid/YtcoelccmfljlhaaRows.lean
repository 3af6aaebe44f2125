/-
  No cell of these rows narrows 'for every input' (looked for: loops, veiled, ifaces, maps, wideKeys, modest, calm, conditions, laid).
  DERIVED. THE GIVEN ROWS OF THIS SEAT. 7 by the template 'for every input the law returns true; each argument reads behind the call as it read before'; 0 by the template 'total and deterministic' (their statements: YtcoelccmfljlhaaTotals.lean).
  GIVEN WITH THE SEED: the statements are not yours to turn. If you find one false, say at which input.
  Laid BY PROGRAM, IN A SANDBOX (cutbox-rows.mjs): the forced cells as the released guide's own fill.sh prints them over the translation 5d0d2a937e1a856a… (all of the seat's roots in one cut). By AI agents, Wed Nov 11 2026. No macro, syntax, notation, axiom, sorry.
-/
import Derived.Test.YtcoelccmfljlhaaChecked
import GoSem.Claim
import GoSem.ClaimJoined
import GoSem.ClaimMapViews
import Derived.JoinedTies
import Derived.KernelRfl
namespace Go.Proofs.Ytcoelccmfljlhaa
/- THE CELL 'sum', in the pinned program and in every row, IS THE sha256 OF THE DUMP (.gsa) THAT YtcoelccmfljlhaaProg.lean LOADS. Nothing in Lean hashes anything: it is a label: what it is worth is what the hold of that sum in a sandbox is worth. -/
noncomputable def Try.pinned : Pinned := { name := "ytcoelccmfljlhaa", sum := "5d0d2a937e1a856abf0377c9292b516dfbe9f3294fa3aef0af0185f4513a93ea", checked := Try.checked }
namespace Rows
def none {H : Type} : Left H := { results := [], args := [] }

/-- 'laws.FnExactValidElection': WHATEVER THE INPUT: true; the input reads as it did. -/
def fnExactValidElectionSpec : ChangeSpec := { name := "fnExactValidElection", fn := fun _ => fun
  | [d] => { results := [.lit (.bool true)], args := [d] }
  | _ => none }
def fnExactValidElectionRow : OpenClaim := { program := "ytcoelccmfljlhaa", sum := "5d0d2a937e1a856abf0377c9292b516dfbe9f3294fa3aef0af0185f4513a93ea", func := "loop.example/g01095/laws.FnExactValidElection", spec := "fnExactValidElection", unfollowed := true, recurses := true, apart := false }
def FnExactValidElectionSaid : Prop := fnExactValidElectionRow.holds Try.pinned (OpenSpec.ofChange fnExactValidElectionSpec)

/-- ITS FALSE NEIGHBOUR: 'it returns false'. Refute it at one input. -/
def fnExactValidElectionWrong : ChangeSpec := { name := "fnExactValidElection", fn := fun _ => fun
  | [d] => { results := [.lit (.bool false)], args := [d] }
  | _ => none }
def FnExactValidElectionWrongFalsely : Prop := fnExactValidElectionRow.holds Try.pinned (OpenSpec.ofChange fnExactValidElectionWrong)

/-- 'laws.FnExactSupportersOf': WHATEVER THE INPUT: true; the input reads as it did. -/
def fnExactSupportersOfSpec : ChangeSpec := { name := "fnExactSupportersOf", fn := fun _ => fun
  | [d1, d2] => { results := [.lit (.bool true)], args := [d1, d2] }
  | _ => none }
def fnExactSupportersOfRow : OpenClaim := { program := "ytcoelccmfljlhaa", sum := "5d0d2a937e1a856abf0377c9292b516dfbe9f3294fa3aef0af0185f4513a93ea", func := "loop.example/g01095/laws.FnExactSupportersOf", spec := "fnExactSupportersOf", unfollowed := true, recurses := true, apart := false }
def FnExactSupportersOfSaid : Prop := fnExactSupportersOfRow.holds Try.pinned (OpenSpec.ofChange fnExactSupportersOfSpec)

/-- ITS FALSE NEIGHBOUR: 'it returns false'. Refute it at one input. -/
def fnExactSupportersOfWrong : ChangeSpec := { name := "fnExactSupportersOf", fn := fun _ => fun
  | [d1, d2] => { results := [.lit (.bool false)], args := [d1, d2] }
  | _ => none }
def FnExactSupportersOfWrongFalsely : Prop := fnExactSupportersOfRow.holds Try.pinned (OpenSpec.ofChange fnExactSupportersOfWrong)

/-- 'laws.FnExactCostOf': WHATEVER THE INPUT: true; the input reads as it did. -/
def fnExactCostOfSpec : ChangeSpec := { name := "fnExactCostOf", fn := fun _ => fun
  | [d1, d2] => { results := [.lit (.bool true)], args := [d1, d2] }
  | _ => none }
def fnExactCostOfRow : OpenClaim := { program := "ytcoelccmfljlhaa", sum := "5d0d2a937e1a856abf0377c9292b516dfbe9f3294fa3aef0af0185f4513a93ea", func := "loop.example/g01095/laws.FnExactCostOf", spec := "fnExactCostOf", unfollowed := true, recurses := true, apart := false }
def FnExactCostOfSaid : Prop := fnExactCostOfRow.holds Try.pinned (OpenSpec.ofChange fnExactCostOfSpec)

/-- ITS FALSE NEIGHBOUR: 'it returns false'. Refute it at one input. -/
def fnExactCostOfWrong : ChangeSpec := { name := "fnExactCostOf", fn := fun _ => fun
  | [d1, d2] => { results := [.lit (.bool false)], args := [d1, d2] }
  | _ => none }
def FnExactCostOfWrongFalsely : Prop := fnExactCostOfRow.holds Try.pinned (OpenSpec.ofChange fnExactCostOfWrong)

/-- 'laws.FnExactApprovedIn': WHATEVER THE INPUT: true; the input reads as it did. -/
def fnExactApprovedInSpec : ChangeSpec := { name := "fnExactApprovedIn", fn := fun _ => fun
  | [d1, d2] => { results := [.lit (.bool true)], args := [d1, d2] }
  | _ => none }
def fnExactApprovedInRow : OpenClaim := { program := "ytcoelccmfljlhaa", sum := "5d0d2a937e1a856abf0377c9292b516dfbe9f3294fa3aef0af0185f4513a93ea", func := "loop.example/g01095/laws.FnExactApprovedIn", spec := "fnExactApprovedIn", unfollowed := true, recurses := true, apart := false }
def FnExactApprovedInSaid : Prop := fnExactApprovedInRow.holds Try.pinned (OpenSpec.ofChange fnExactApprovedInSpec)

/-- ITS FALSE NEIGHBOUR: 'it returns false'. Refute it at one input. -/
def fnExactApprovedInWrong : ChangeSpec := { name := "fnExactApprovedIn", fn := fun _ => fun
  | [d1, d2] => { results := [.lit (.bool false)], args := [d1, d2] }
  | _ => none }
def FnExactApprovedInWrongFalsely : Prop := fnExactApprovedInRow.holds Try.pinned (OpenSpec.ofChange fnExactApprovedInWrong)

/-- 'laws.FnExactGreedyBudget': WHATEVER THE INPUT: true; the input reads as it did. -/
def fnExactGreedyBudgetSpec : ChangeSpec := { name := "fnExactGreedyBudget", fn := fun _ => fun
  | [d] => { results := [.lit (.bool true)], args := [d] }
  | _ => none }
def fnExactGreedyBudgetRow : OpenClaim := { program := "ytcoelccmfljlhaa", sum := "5d0d2a937e1a856abf0377c9292b516dfbe9f3294fa3aef0af0185f4513a93ea", func := "loop.example/g01095/laws.FnExactGreedyBudget", spec := "fnExactGreedyBudget", unfollowed := true, recurses := true, apart := false }
def FnExactGreedyBudgetSaid : Prop := fnExactGreedyBudgetRow.holds Try.pinned (OpenSpec.ofChange fnExactGreedyBudgetSpec)

/-- ITS FALSE NEIGHBOUR: 'it returns false'. Refute it at one input. -/
def fnExactGreedyBudgetWrong : ChangeSpec := { name := "fnExactGreedyBudget", fn := fun _ => fun
  | [d] => { results := [.lit (.bool false)], args := [d] }
  | _ => none }
def FnExactGreedyBudgetWrongFalsely : Prop := fnExactGreedyBudgetRow.holds Try.pinned (OpenSpec.ofChange fnExactGreedyBudgetWrong)

/-- 'laws.FnExactShareOut': WHATEVER THE INPUT: true; the input reads as it did. -/
def fnExactShareOutSpec : ChangeSpec := { name := "fnExactShareOut", fn := fun _ => fun
  | [d1, d2] => { results := [.lit (.bool true)], args := [d1, d2] }
  | _ => none }
def fnExactShareOutRow : OpenClaim := { program := "ytcoelccmfljlhaa", sum := "5d0d2a937e1a856abf0377c9292b516dfbe9f3294fa3aef0af0185f4513a93ea", func := "loop.example/g01095/laws.FnExactShareOut", spec := "fnExactShareOut", unfollowed := true, recurses := true, named := ["math/bits.divideError", "math/bits.overflowError"], apart := false }
def FnExactShareOutSaid : Prop := fnExactShareOutRow.holds Try.pinned (OpenSpec.ofChange fnExactShareOutSpec)

/-- ITS FALSE NEIGHBOUR: 'it returns false'. Refute it at one input. -/
def fnExactShareOutWrong : ChangeSpec := { name := "fnExactShareOut", fn := fun _ => fun
  | [d1, d2] => { results := [.lit (.bool false)], args := [d1, d2] }
  | _ => none }
def FnExactShareOutWrongFalsely : Prop := fnExactShareOutRow.holds Try.pinned (OpenSpec.ofChange fnExactShareOutWrong)

/-- 'laws.FnExactUnjustifiedGroup': WHATEVER THE INPUT: true; the input reads as it did. -/
def fnExactUnjustifiedGroupSpec : ChangeSpec := { name := "fnExactUnjustifiedGroup", fn := fun _ => fun
  | [d1, d2] => { results := [.lit (.bool true)], args := [d1, d2] }
  | _ => none }
def fnExactUnjustifiedGroupRow : OpenClaim := { program := "ytcoelccmfljlhaa", sum := "5d0d2a937e1a856abf0377c9292b516dfbe9f3294fa3aef0af0185f4513a93ea", func := "loop.example/g01095/laws.FnExactUnjustifiedGroup", spec := "fnExactUnjustifiedGroup", unfollowed := true, recurses := true, apart := false }
def FnExactUnjustifiedGroupSaid : Prop := fnExactUnjustifiedGroupRow.holds Try.pinned (OpenSpec.ofChange fnExactUnjustifiedGroupSpec)

/-- ITS FALSE NEIGHBOUR: 'it returns false'. Refute it at one input. -/
def fnExactUnjustifiedGroupWrong : ChangeSpec := { name := "fnExactUnjustifiedGroup", fn := fun _ => fun
  | [d1, d2] => { results := [.lit (.bool false)], args := [d1, d2] }
  | _ => none }
def FnExactUnjustifiedGroupWrongFalsely : Prop := fnExactUnjustifiedGroupRow.holds Try.pinned (OpenSpec.ofChange fnExactUnjustifiedGroupWrong)

/- THE SECOND FORM. 'bulk': how many values and letters a reading holds, each counted each time it is reached (what is shared counts as often as it is met; a slice's spare places count too). A statement '..UptoSaid' is the law's where the arguments, and the package variables that the reading takes, are together of bulk at most 1048576: NARROWER than '..Said'. Prove '..Said' where nothing that the law and all that it calls make is longer than what came in: it says more and counts as full. Else prove '..UptoSaid'. A law counts once. -/
mutual
def uptoBulk {H : Type} : DataW H → Nat
  | .lit (.string bytes) => bytes.length + 1
  | .lit _ => 1
  | .nil => 1
  | .ptr d => uptoBulk d + 1
  | .slice elems spare => uptoBulkAll elems + uptoBulkAll spare + 1
  | .agg parts => uptoBulkAll parts + 1
  | .iface _ d => uptoBulk d + 1
  | .map entries => uptoBulkEntries entries + 1
  | .held _ => 1
def uptoBulkAll {H : Type} : List (DataW H) → Nat
  | [] => 0
  | d :: r => uptoBulk d + uptoBulkAll r
def uptoBulkEntries {H : Type} : List (Lit × DataW H) → Nat
  | [] => 0
  | x :: r => uptoBulkEntry x + uptoBulkEntries r
def uptoBulkEntry {H : Type} : Lit × DataW H → Nat
  | (.string bytes, d) => bytes.length + uptoBulk d + 1
  | (_, d) => uptoBulk d + 1
 end
def uptoSmall : (H : Type) → List (DataW H) → Bool := fun _ ds => decide (uptoBulkAll ds ≤ 1048576)
def OpenSpec.upto (s : _root_.Go.ChangeSpec) : _root_.Go.OpenSpec := { _root_.Go.OpenSpec.ofChange s with cond := some uptoSmall }

/-- 'laws.FnExactValidElection', WHERE WHAT IT READS IS OF BULK AT MOST 1048576: true; the input reads as it did. -/
def fnExactValidElectionUptoRow : OpenClaim := { program := "ytcoelccmfljlhaa", sum := "5d0d2a937e1a856abf0377c9292b516dfbe9f3294fa3aef0af0185f4513a93ea", func := "loop.example/g01095/laws.FnExactValidElection", spec := "fnExactValidElection", unfollowed := true, recurses := true, apart := false, narrowed := true }
def FnExactValidElectionUptoSaid : Prop := fnExactValidElectionUptoRow.holds Try.pinned (OpenSpec.upto fnExactValidElectionSpec)

/-- 'laws.FnExactSupportersOf', WHERE WHAT IT READS IS OF BULK AT MOST 1048576: true; the input reads as it did. -/
def fnExactSupportersOfUptoRow : OpenClaim := { program := "ytcoelccmfljlhaa", sum := "5d0d2a937e1a856abf0377c9292b516dfbe9f3294fa3aef0af0185f4513a93ea", func := "loop.example/g01095/laws.FnExactSupportersOf", spec := "fnExactSupportersOf", unfollowed := true, recurses := true, apart := false, narrowed := true }
def FnExactSupportersOfUptoSaid : Prop := fnExactSupportersOfUptoRow.holds Try.pinned (OpenSpec.upto fnExactSupportersOfSpec)

/-- 'laws.FnExactCostOf', WHERE WHAT IT READS IS OF BULK AT MOST 1048576: true; the input reads as it did. -/
def fnExactCostOfUptoRow : OpenClaim := { program := "ytcoelccmfljlhaa", sum := "5d0d2a937e1a856abf0377c9292b516dfbe9f3294fa3aef0af0185f4513a93ea", func := "loop.example/g01095/laws.FnExactCostOf", spec := "fnExactCostOf", unfollowed := true, recurses := true, apart := false, narrowed := true }
def FnExactCostOfUptoSaid : Prop := fnExactCostOfUptoRow.holds Try.pinned (OpenSpec.upto fnExactCostOfSpec)

/-- 'laws.FnExactApprovedIn', WHERE WHAT IT READS IS OF BULK AT MOST 1048576: true; the input reads as it did. -/
def fnExactApprovedInUptoRow : OpenClaim := { program := "ytcoelccmfljlhaa", sum := "5d0d2a937e1a856abf0377c9292b516dfbe9f3294fa3aef0af0185f4513a93ea", func := "loop.example/g01095/laws.FnExactApprovedIn", spec := "fnExactApprovedIn", unfollowed := true, recurses := true, apart := false, narrowed := true }
def FnExactApprovedInUptoSaid : Prop := fnExactApprovedInUptoRow.holds Try.pinned (OpenSpec.upto fnExactApprovedInSpec)

/-- 'laws.FnExactGreedyBudget', WHERE WHAT IT READS IS OF BULK AT MOST 1048576: true; the input reads as it did. -/
def fnExactGreedyBudgetUptoRow : OpenClaim := { program := "ytcoelccmfljlhaa", sum := "5d0d2a937e1a856abf0377c9292b516dfbe9f3294fa3aef0af0185f4513a93ea", func := "loop.example/g01095/laws.FnExactGreedyBudget", spec := "fnExactGreedyBudget", unfollowed := true, recurses := true, apart := false, narrowed := true }
def FnExactGreedyBudgetUptoSaid : Prop := fnExactGreedyBudgetUptoRow.holds Try.pinned (OpenSpec.upto fnExactGreedyBudgetSpec)

/-- 'laws.FnExactShareOut', WHERE WHAT IT READS IS OF BULK AT MOST 1048576: true; the input reads as it did. -/
def fnExactShareOutUptoRow : OpenClaim := { program := "ytcoelccmfljlhaa", sum := "5d0d2a937e1a856abf0377c9292b516dfbe9f3294fa3aef0af0185f4513a93ea", func := "loop.example/g01095/laws.FnExactShareOut", spec := "fnExactShareOut", unfollowed := true, recurses := true, named := ["math/bits.divideError", "math/bits.overflowError"], apart := false, narrowed := true }
def FnExactShareOutUptoSaid : Prop := fnExactShareOutUptoRow.holds Try.pinned (OpenSpec.upto fnExactShareOutSpec)

/-- 'laws.FnExactUnjustifiedGroup', WHERE WHAT IT READS IS OF BULK AT MOST 1048576: true; the input reads as it did. -/
def fnExactUnjustifiedGroupUptoRow : OpenClaim := { program := "ytcoelccmfljlhaa", sum := "5d0d2a937e1a856abf0377c9292b516dfbe9f3294fa3aef0af0185f4513a93ea", func := "loop.example/g01095/laws.FnExactUnjustifiedGroup", spec := "fnExactUnjustifiedGroup", unfollowed := true, recurses := true, apart := false, narrowed := true }
def FnExactUnjustifiedGroupUptoSaid : Prop := fnExactUnjustifiedGroupUptoRow.holds Try.pinned (OpenSpec.upto fnExactUnjustifiedGroupSpec)

end Rows
end Go.Proofs.Ytcoelccmfljlhaa

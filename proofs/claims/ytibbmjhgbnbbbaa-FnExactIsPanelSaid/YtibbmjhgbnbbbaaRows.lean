/-
  No cell of these rows narrows 'for every input' (looked for: loops, veiled, ifaces, maps, wideKeys, modest, calm, conditions, laid).
  DERIVED. THE GIVEN ROWS OF THIS SEAT. 5 by the template 'for every input the law returns true; each argument reads behind the call as it read before'; 0 by the template 'total and deterministic' (their statements: YtibbmjhgbnbbbaaTotals.lean).
  GIVEN WITH THE SEED: the statements are not yours to turn. If you find one false, say at which input.
  Laid BY PROGRAM, IN A SANDBOX (cutbox-rows.mjs): the forced cells as the released guide's own fill.sh prints them over the translation ce93b32b14c51caa… (all of the seat's roots in one cut). By AI agents, Wed Nov 11 2026. No macro, syntax, notation, axiom, sorry.
-/
import Derived.Test.YtibbmjhgbnbbbaaChecked
import GoSem.Claim
import GoSem.ClaimJoined
import GoSem.ClaimMapViews
import Derived.JoinedTies
import Derived.KernelRfl
namespace Go.Proofs.Ytibbmjhgbnbbbaa
/- THE CELL 'sum', in the pinned program and in every row, IS THE sha256 OF THE DUMP (.gsa) THAT YtibbmjhgbnbbbaaProg.lean LOADS. Nothing in Lean hashes anything: it is a label: what it is worth is what the hold of that sum in a sandbox is worth. -/
noncomputable def Try.pinned : Pinned := { name := "ytibbmjhgbnbbbaa", sum := "ce93b32b14c51caa308e6638843bbf33ccbd1ebf2507baf0f57ee90636b103c9", checked := Try.checked }
namespace Rows
def none {H : Type} : Left H := { results := [], args := [] }

/-- 'laws.FnExactValidPool': WHATEVER THE INPUT: true; the input reads as it did. -/
def fnExactValidPoolSpec : ChangeSpec := { name := "fnExactValidPool", fn := fun _ => fun
  | [d] => { results := [.lit (.bool true)], args := [d] }
  | _ => none }
def fnExactValidPoolRow : OpenClaim := { program := "ytibbmjhgbnbbbaa", sum := "ce93b32b14c51caa308e6638843bbf33ccbd1ebf2507baf0f57ee90636b103c9", func := "loop.example/g01095/laws.FnExactValidPool", spec := "fnExactValidPool", unfollowed := true, recurses := true, apart := false }
def FnExactValidPoolSaid : Prop := fnExactValidPoolRow.holds Try.pinned (OpenSpec.ofChange fnExactValidPoolSpec)

/-- ITS FALSE NEIGHBOUR: 'it returns false'. Refute it at one input. -/
def fnExactValidPoolWrong : ChangeSpec := { name := "fnExactValidPool", fn := fun _ => fun
  | [d] => { results := [.lit (.bool false)], args := [d] }
  | _ => none }
def FnExactValidPoolWrongFalsely : Prop := fnExactValidPoolRow.holds Try.pinned (OpenSpec.ofChange fnExactValidPoolWrong)

/-- 'laws.FnExactIsPanel': WHATEVER THE INPUT: true; the input reads as it did. -/
def fnExactIsPanelSpec : ChangeSpec := { name := "fnExactIsPanel", fn := fun _ => fun
  | [d1, d2] => { results := [.lit (.bool true)], args := [d1, d2] }
  | _ => none }
def fnExactIsPanelRow : OpenClaim := { program := "ytibbmjhgbnbbbaa", sum := "ce93b32b14c51caa308e6638843bbf33ccbd1ebf2507baf0f57ee90636b103c9", func := "loop.example/g01095/laws.FnExactIsPanel", spec := "fnExactIsPanel", unfollowed := true, recurses := true, apart := false }
def FnExactIsPanelSaid : Prop := fnExactIsPanelRow.holds Try.pinned (OpenSpec.ofChange fnExactIsPanelSpec)

/-- ITS FALSE NEIGHBOUR: 'it returns false'. Refute it at one input. -/
def fnExactIsPanelWrong : ChangeSpec := { name := "fnExactIsPanel", fn := fun _ => fun
  | [d1, d2] => { results := [.lit (.bool false)], args := [d1, d2] }
  | _ => none }
def FnExactIsPanelWrongFalsely : Prop := fnExactIsPanelRow.holds Try.pinned (OpenSpec.ofChange fnExactIsPanelWrong)

/-- 'laws.FnExactShortfallOf': WHATEVER THE INPUT: true; the input reads as it did. -/
def fnExactShortfallOfSpec : ChangeSpec := { name := "fnExactShortfallOf", fn := fun _ => fun
  | [d1, d2] => { results := [.lit (.bool true)], args := [d1, d2] }
  | _ => none }
def fnExactShortfallOfRow : OpenClaim := { program := "ytibbmjhgbnbbbaa", sum := "ce93b32b14c51caa308e6638843bbf33ccbd1ebf2507baf0f57ee90636b103c9", func := "loop.example/g01095/laws.FnExactShortfallOf", spec := "fnExactShortfallOf", unfollowed := true, recurses := true, apart := false }
def FnExactShortfallOfSaid : Prop := fnExactShortfallOfRow.holds Try.pinned (OpenSpec.ofChange fnExactShortfallOfSpec)

/-- ITS FALSE NEIGHBOUR: 'it returns false'. Refute it at one input. -/
def fnExactShortfallOfWrong : ChangeSpec := { name := "fnExactShortfallOf", fn := fun _ => fun
  | [d1, d2] => { results := [.lit (.bool false)], args := [d1, d2] }
  | _ => none }
def FnExactShortfallOfWrongFalsely : Prop := fnExactShortfallOfRow.holds Try.pinned (OpenSpec.ofChange fnExactShortfallOfWrong)

/-- 'laws.FnExactShareOut': WHATEVER THE INPUT: true; the input reads as it did. -/
def fnExactShareOutSpec : ChangeSpec := { name := "fnExactShareOut", fn := fun _ => fun
  | [d1, d2] => { results := [.lit (.bool true)], args := [d1, d2] }
  | _ => none }
def fnExactShareOutRow : OpenClaim := { program := "ytibbmjhgbnbbbaa", sum := "ce93b32b14c51caa308e6638843bbf33ccbd1ebf2507baf0f57ee90636b103c9", func := "loop.example/g01095/laws.FnExactShareOut", spec := "fnExactShareOut", unfollowed := true, recurses := true, named := ["math/bits.divideError", "math/bits.overflowError"], apart := false }
def FnExactShareOutSaid : Prop := fnExactShareOutRow.holds Try.pinned (OpenSpec.ofChange fnExactShareOutSpec)

/-- ITS FALSE NEIGHBOUR: 'it returns false'. Refute it at one input. -/
def fnExactShareOutWrong : ChangeSpec := { name := "fnExactShareOut", fn := fun _ => fun
  | [d1, d2] => { results := [.lit (.bool false)], args := [d1, d2] }
  | _ => none }
def FnExactShareOutWrongFalsely : Prop := fnExactShareOutRow.holds Try.pinned (OpenSpec.ofChange fnExactShareOutWrong)

/-- 'laws.FnShared': WHATEVER THE INPUT: true; the input reads as it did. -/
def fnSharedSpec : ChangeSpec := { name := "fnShared", fn := fun _ => fun
  | [d1, d2] => { results := [.lit (.bool true)], args := [d1, d2] }
  | _ => none }
def fnSharedRow : OpenClaim := { program := "ytibbmjhgbnbbbaa", sum := "ce93b32b14c51caa308e6638843bbf33ccbd1ebf2507baf0f57ee90636b103c9", func := "loop.example/g01095/laws.FnShared", spec := "fnShared", unfollowed := true, recurses := true, named := ["math/bits.divideError", "math/bits.overflowError"], apart := false }
def FnSharedSaid : Prop := fnSharedRow.holds Try.pinned (OpenSpec.ofChange fnSharedSpec)

/-- ITS FALSE NEIGHBOUR: 'it returns false'. Refute it at one input. -/
def fnSharedWrong : ChangeSpec := { name := "fnShared", fn := fun _ => fun
  | [d1, d2] => { results := [.lit (.bool false)], args := [d1, d2] }
  | _ => none }
def FnSharedWrongFalsely : Prop := fnSharedRow.holds Try.pinned (OpenSpec.ofChange fnSharedWrong)

/- THE SECOND FORM. 'bulk': how many values and letters a reading holds, each counted each time it is reached (what is shared counts as often as it is met; a slice's spare places count too). A statement '..UptoSaid' is the law's where the arguments, and the package variables that the reading takes, are together of bulk at most 1048576: NARROWER than '..Said'. Prove '..Said' where nothing that the law and all that it calls make is longer than what came in: it says more and counts as full. Else prove '..UptoSaid'. A law counts once. -/
mutual
def uptoBulk {H : Type} : DataW H → Nat
  | .lit (.string bytes) => bytes.length + 1
  | .lit _ => 1
  | .nil => 1
  | .ptr d => uptoBulk d + 1
  | .slice elems spare => uptoBulkAll elems + uptoBulkAll spare + 1
  | .agg parts => uptoBulkAll parts + 1
  | .iface _ d => uptoBulk d + 1
  | .map entries => uptoBulkEntries entries + 1
  | .held _ => 1
def uptoBulkAll {H : Type} : List (DataW H) → Nat
  | [] => 0
  | d :: r => uptoBulk d + uptoBulkAll r
def uptoBulkEntries {H : Type} : List (Lit × DataW H) → Nat
  | [] => 0
  | x :: r => uptoBulkEntry x + uptoBulkEntries r
def uptoBulkEntry {H : Type} : Lit × DataW H → Nat
  | (.string bytes, d) => bytes.length + uptoBulk d + 1
  | (_, d) => uptoBulk d + 1
 end
def uptoSmall : (H : Type) → List (DataW H) → Bool := fun _ ds => decide (uptoBulkAll ds ≤ 1048576)
def OpenSpec.upto (s : _root_.Go.ChangeSpec) : _root_.Go.OpenSpec := { _root_.Go.OpenSpec.ofChange s with cond := some uptoSmall }

/-- 'laws.FnExactValidPool', WHERE WHAT IT READS IS OF BULK AT MOST 1048576: true; the input reads as it did. -/
def fnExactValidPoolUptoRow : OpenClaim := { program := "ytibbmjhgbnbbbaa", sum := "ce93b32b14c51caa308e6638843bbf33ccbd1ebf2507baf0f57ee90636b103c9", func := "loop.example/g01095/laws.FnExactValidPool", spec := "fnExactValidPool", unfollowed := true, recurses := true, apart := false, narrowed := true }
def FnExactValidPoolUptoSaid : Prop := fnExactValidPoolUptoRow.holds Try.pinned (OpenSpec.upto fnExactValidPoolSpec)

/-- 'laws.FnExactIsPanel', WHERE WHAT IT READS IS OF BULK AT MOST 1048576: true; the input reads as it did. -/
def fnExactIsPanelUptoRow : OpenClaim := { program := "ytibbmjhgbnbbbaa", sum := "ce93b32b14c51caa308e6638843bbf33ccbd1ebf2507baf0f57ee90636b103c9", func := "loop.example/g01095/laws.FnExactIsPanel", spec := "fnExactIsPanel", unfollowed := true, recurses := true, apart := false, narrowed := true }
def FnExactIsPanelUptoSaid : Prop := fnExactIsPanelUptoRow.holds Try.pinned (OpenSpec.upto fnExactIsPanelSpec)

/-- 'laws.FnExactShortfallOf', WHERE WHAT IT READS IS OF BULK AT MOST 1048576: true; the input reads as it did. -/
def fnExactShortfallOfUptoRow : OpenClaim := { program := "ytibbmjhgbnbbbaa", sum := "ce93b32b14c51caa308e6638843bbf33ccbd1ebf2507baf0f57ee90636b103c9", func := "loop.example/g01095/laws.FnExactShortfallOf", spec := "fnExactShortfallOf", unfollowed := true, recurses := true, apart := false, narrowed := true }
def FnExactShortfallOfUptoSaid : Prop := fnExactShortfallOfUptoRow.holds Try.pinned (OpenSpec.upto fnExactShortfallOfSpec)

/-- 'laws.FnExactShareOut', WHERE WHAT IT READS IS OF BULK AT MOST 1048576: true; the input reads as it did. -/
def fnExactShareOutUptoRow : OpenClaim := { program := "ytibbmjhgbnbbbaa", sum := "ce93b32b14c51caa308e6638843bbf33ccbd1ebf2507baf0f57ee90636b103c9", func := "loop.example/g01095/laws.FnExactShareOut", spec := "fnExactShareOut", unfollowed := true, recurses := true, named := ["math/bits.divideError", "math/bits.overflowError"], apart := false, narrowed := true }
def FnExactShareOutUptoSaid : Prop := fnExactShareOutUptoRow.holds Try.pinned (OpenSpec.upto fnExactShareOutSpec)

/-- 'laws.FnShared', WHERE WHAT IT READS IS OF BULK AT MOST 1048576: true; the input reads as it did. -/
def fnSharedUptoRow : OpenClaim := { program := "ytibbmjhgbnbbbaa", sum := "ce93b32b14c51caa308e6638843bbf33ccbd1ebf2507baf0f57ee90636b103c9", func := "loop.example/g01095/laws.FnShared", spec := "fnShared", unfollowed := true, recurses := true, named := ["math/bits.divideError", "math/bits.overflowError"], apart := false, narrowed := true }
def FnSharedUptoSaid : Prop := fnSharedUptoRow.holds Try.pinned (OpenSpec.upto fnSharedSpec)

end Rows
end Go.Proofs.Ytibbmjhgbnbbbaa

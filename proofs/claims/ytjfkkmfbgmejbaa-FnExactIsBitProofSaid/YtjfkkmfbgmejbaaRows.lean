/-
  No cell of these rows narrows 'for every input' (looked for: loops, veiled, ifaces, maps, wideKeys, modest, calm, conditions, laid).
  DERIVED. THE GIVEN ROWS OF THIS SEAT. 8 by the template 'for every input the law returns true; each argument reads behind the call as it read before'; 0 by the template 'total and deterministic' (their statements: YtjfkkmfbgmejbaaTotals.lean).
  GIVEN WITH THE SEED: the statements are not yours to turn. If you find one false, say at which input.
  Laid BY PROGRAM, IN A SANDBOX (cutbox-rows.mjs): the forced cells as the released guide's own fill.sh prints them over the translation ea86f319ecb8298c… (all of the seat's roots in one cut). By AI agents, Wed Nov 11 2026. No macro, syntax, notation, axiom, sorry.
-/
import Derived.Test.YtjfkkmfbgmejbaaChecked
import GoSem.Claim
import GoSem.ClaimJoined
import GoSem.ClaimMapViews
import Derived.JoinedTies
import Derived.KernelRfl
namespace Go.Proofs.Ytjfkkmfbgmejbaa
/- THE CELL 'sum', in the pinned program and in every row, IS THE sha256 OF THE DUMP (.gsa) THAT YtjfkkmfbgmejbaaProg.lean LOADS. Nothing in Lean hashes anything: it is a label: what it is worth is what the hold of that sum in a sandbox is worth. -/
noncomputable def Try.pinned : Pinned := { name := "ytjfkkmfbgmejbaa", sum := "ea86f319ecb8298c084cade80a795421dc21d18d0dac8a8a5d5a43765c0587d3", checked := Try.checked }
namespace Rows
def none {H : Type} : Left H := { results := [], args := [] }

/-- 'laws.FnExactProveBit': WHATEVER THE INPUT: true; the input reads as it did. -/
def fnExactProveBitSpec : ChangeSpec := { name := "fnExactProveBit", fn := fun _ => fun
  | [d1, d2, d3] => { results := [.lit (.bool true)], args := [d1, d2, d3] }
  | _ => none }
def fnExactProveBitRow : OpenClaim := { program := "ytjfkkmfbgmejbaa", sum := "ea86f319ecb8298c084cade80a795421dc21d18d0dac8a8a5d5a43765c0587d3", func := "loop.example/g01095/laws.FnExactProveBit", spec := "fnExactProveBit", apart := false }
def FnExactProveBitSaid : Prop := fnExactProveBitRow.holds Try.pinned (OpenSpec.ofChange fnExactProveBitSpec)

/-- ITS FALSE NEIGHBOUR: 'it returns false'. Refute it at one input. -/
def fnExactProveBitWrong : ChangeSpec := { name := "fnExactProveBit", fn := fun _ => fun
  | [d1, d2, d3] => { results := [.lit (.bool false)], args := [d1, d2, d3] }
  | _ => none }
def FnExactProveBitWrongFalsely : Prop := fnExactProveBitRow.holds Try.pinned (OpenSpec.ofChange fnExactProveBitWrong)

/-- 'laws.FnExactIsBitProof': WHATEVER THE INPUT: true; the input reads as it did. -/
def fnExactIsBitProofSpec : ChangeSpec := { name := "fnExactIsBitProof", fn := fun _ => fun
  | [d1, d2] => { results := [.lit (.bool true)], args := [d1, d2] }
  | _ => none }
def fnExactIsBitProofRow : OpenClaim := { program := "ytjfkkmfbgmejbaa", sum := "ea86f319ecb8298c084cade80a795421dc21d18d0dac8a8a5d5a43765c0587d3", func := "loop.example/g01095/laws.FnExactIsBitProof", spec := "fnExactIsBitProof", apart := false }
def FnExactIsBitProofSaid : Prop := fnExactIsBitProofRow.holds Try.pinned (OpenSpec.ofChange fnExactIsBitProofSpec)

/-- ITS FALSE NEIGHBOUR: 'it returns false'. Refute it at one input. -/
def fnExactIsBitProofWrong : ChangeSpec := { name := "fnExactIsBitProof", fn := fun _ => fun
  | [d1, d2] => { results := [.lit (.bool false)], args := [d1, d2] }
  | _ => none }
def FnExactIsBitProofWrongFalsely : Prop := fnExactIsBitProofRow.holds Try.pinned (OpenSpec.ofChange fnExactIsBitProofWrong)

/-- 'laws.FnExactSealBallot': WHATEVER THE INPUT: true; the input reads as it did. -/
def fnExactSealBallotSpec : ChangeSpec := { name := "fnExactSealBallot", fn := fun _ => fun
  | [d1, d2, d3] => { results := [.lit (.bool true)], args := [d1, d2, d3] }
  | _ => none }
def fnExactSealBallotRow : OpenClaim := { program := "ytjfkkmfbgmejbaa", sum := "ea86f319ecb8298c084cade80a795421dc21d18d0dac8a8a5d5a43765c0587d3", func := "loop.example/g01095/laws.FnExactSealBallot", spec := "fnExactSealBallot", unfollowed := true, recurses := true, apart := false }
def FnExactSealBallotSaid : Prop := fnExactSealBallotRow.holds Try.pinned (OpenSpec.ofChange fnExactSealBallotSpec)

/-- ITS FALSE NEIGHBOUR: 'it returns false'. Refute it at one input. -/
def fnExactSealBallotWrong : ChangeSpec := { name := "fnExactSealBallot", fn := fun _ => fun
  | [d1, d2, d3] => { results := [.lit (.bool false)], args := [d1, d2, d3] }
  | _ => none }
def FnExactSealBallotWrongFalsely : Prop := fnExactSealBallotRow.holds Try.pinned (OpenSpec.ofChange fnExactSealBallotWrong)

/-- 'laws.FnExactIsBallot': WHATEVER THE INPUT: true; the input reads as it did. -/
def fnExactIsBallotSpec : ChangeSpec := { name := "fnExactIsBallot", fn := fun _ => fun
  | [d] => { results := [.lit (.bool true)], args := [d] }
  | _ => none }
def fnExactIsBallotRow : OpenClaim := { program := "ytjfkkmfbgmejbaa", sum := "ea86f319ecb8298c084cade80a795421dc21d18d0dac8a8a5d5a43765c0587d3", func := "loop.example/g01095/laws.FnExactIsBallot", spec := "fnExactIsBallot", unfollowed := true, recurses := true, apart := false }
def FnExactIsBallotSaid : Prop := fnExactIsBallotRow.holds Try.pinned (OpenSpec.ofChange fnExactIsBallotSpec)

/-- ITS FALSE NEIGHBOUR: 'it returns false'. Refute it at one input. -/
def fnExactIsBallotWrong : ChangeSpec := { name := "fnExactIsBallot", fn := fun _ => fun
  | [d] => { results := [.lit (.bool false)], args := [d] }
  | _ => none }
def FnExactIsBallotWrongFalsely : Prop := fnExactIsBallotRow.holds Try.pinned (OpenSpec.ofChange fnExactIsBallotWrong)

/-- 'laws.FnExactCountSealed': WHATEVER THE INPUT: true; the input reads as it did. -/
def fnExactCountSealedSpec : ChangeSpec := { name := "fnExactCountSealed", fn := fun _ => fun
  | [d1, d2] => { results := [.lit (.bool true)], args := [d1, d2] }
  | _ => none }
def fnExactCountSealedRow : OpenClaim := { program := "ytjfkkmfbgmejbaa", sum := "ea86f319ecb8298c084cade80a795421dc21d18d0dac8a8a5d5a43765c0587d3", func := "loop.example/g01095/laws.FnExactCountSealed", spec := "fnExactCountSealed", unfollowed := true, recurses := true, apart := false }
def FnExactCountSealedSaid : Prop := fnExactCountSealedRow.holds Try.pinned (OpenSpec.ofChange fnExactCountSealedSpec)

/-- ITS FALSE NEIGHBOUR: 'it returns false'. Refute it at one input. -/
def fnExactCountSealedWrong : ChangeSpec := { name := "fnExactCountSealed", fn := fun _ => fun
  | [d1, d2] => { results := [.lit (.bool false)], args := [d1, d2] }
  | _ => none }
def FnExactCountSealedWrongFalsely : Prop := fnExactCountSealedRow.holds Try.pinned (OpenSpec.ofChange fnExactCountSealedWrong)

/-- 'laws.FnExactIsOpening': WHATEVER THE INPUT: true; the input reads as it did. -/
def fnExactIsOpeningSpec : ChangeSpec := { name := "fnExactIsOpening", fn := fun _ => fun
  | [d1, d2, d3, d4] => { results := [.lit (.bool true)], args := [d1, d2, d3, d4] }
  | _ => none }
def fnExactIsOpeningRow : OpenClaim := { program := "ytjfkkmfbgmejbaa", sum := "ea86f319ecb8298c084cade80a795421dc21d18d0dac8a8a5d5a43765c0587d3", func := "loop.example/g01095/laws.FnExactIsOpening", spec := "fnExactIsOpening", unfollowed := true, recurses := true, apart := false }
def FnExactIsOpeningSaid : Prop := fnExactIsOpeningRow.holds Try.pinned (OpenSpec.ofChange fnExactIsOpeningSpec)

/-- ITS FALSE NEIGHBOUR: 'it returns false'. Refute it at one input. -/
def fnExactIsOpeningWrong : ChangeSpec := { name := "fnExactIsOpening", fn := fun _ => fun
  | [d1, d2, d3, d4] => { results := [.lit (.bool false)], args := [d1, d2, d3, d4] }
  | _ => none }
def FnExactIsOpeningWrongFalsely : Prop := fnExactIsOpeningRow.holds Try.pinned (OpenSpec.ofChange fnExactIsOpeningWrong)

/-- 'laws.FnExactMixSeals': WHATEVER THE INPUT: true; the input reads as it did. -/
def fnExactMixSealsSpec : ChangeSpec := { name := "fnExactMixSeals", fn := fun _ => fun
  | [d1, d2, d3] => { results := [.lit (.bool true)], args := [d1, d2, d3] }
  | _ => none }
def fnExactMixSealsRow : OpenClaim := { program := "ytjfkkmfbgmejbaa", sum := "ea86f319ecb8298c084cade80a795421dc21d18d0dac8a8a5d5a43765c0587d3", func := "loop.example/g01095/laws.FnExactMixSeals", spec := "fnExactMixSeals", unfollowed := true, recurses := true, apart := false }
def FnExactMixSealsSaid : Prop := fnExactMixSealsRow.holds Try.pinned (OpenSpec.ofChange fnExactMixSealsSpec)

/-- ITS FALSE NEIGHBOUR: 'it returns false'. Refute it at one input. -/
def fnExactMixSealsWrong : ChangeSpec := { name := "fnExactMixSeals", fn := fun _ => fun
  | [d1, d2, d3] => { results := [.lit (.bool false)], args := [d1, d2, d3] }
  | _ => none }
def FnExactMixSealsWrongFalsely : Prop := fnExactMixSealsRow.holds Try.pinned (OpenSpec.ofChange fnExactMixSealsWrong)

/-- 'laws.FnExactComposeMixes': WHATEVER THE INPUT: true; the input reads as it did. -/
def fnExactComposeMixesSpec : ChangeSpec := { name := "fnExactComposeMixes", fn := fun _ => fun
  | [d1, d2, d3, d4] => { results := [.lit (.bool true)], args := [d1, d2, d3, d4] }
  | _ => none }
def fnExactComposeMixesRow : OpenClaim := { program := "ytjfkkmfbgmejbaa", sum := "ea86f319ecb8298c084cade80a795421dc21d18d0dac8a8a5d5a43765c0587d3", func := "loop.example/g01095/laws.FnExactComposeMixes", spec := "fnExactComposeMixes", unfollowed := true, recurses := true, apart := false }
def FnExactComposeMixesSaid : Prop := fnExactComposeMixesRow.holds Try.pinned (OpenSpec.ofChange fnExactComposeMixesSpec)

/-- ITS FALSE NEIGHBOUR: 'it returns false'. Refute it at one input. -/
def fnExactComposeMixesWrong : ChangeSpec := { name := "fnExactComposeMixes", fn := fun _ => fun
  | [d1, d2, d3, d4] => { results := [.lit (.bool false)], args := [d1, d2, d3, d4] }
  | _ => none }
def FnExactComposeMixesWrongFalsely : Prop := fnExactComposeMixesRow.holds Try.pinned (OpenSpec.ofChange fnExactComposeMixesWrong)

/- THE SECOND FORM. 'bulk': how many values and letters a reading holds, each counted each time it is reached (what is shared counts as often as it is met; a slice's spare places count too). A statement '..UptoSaid' is the law's where the arguments, and the package variables that the reading takes, are together of bulk at most 1048576: NARROWER than '..Said'. Prove '..Said' where nothing that the law and all that it calls make is longer than what came in: it says more and counts as full. Else prove '..UptoSaid'. A law counts once. -/
mutual
def uptoBulk {H : Type} : DataW H → Nat
  | .lit (.string bytes) => bytes.length + 1
  | .lit _ => 1
  | .nil => 1
  | .ptr d => uptoBulk d + 1
  | .slice elems spare => uptoBulkAll elems + uptoBulkAll spare + 1
  | .agg parts => uptoBulkAll parts + 1
  | .iface _ d => uptoBulk d + 1
  | .map entries => uptoBulkEntries entries + 1
  | .held _ => 1
def uptoBulkAll {H : Type} : List (DataW H) → Nat
  | [] => 0
  | d :: r => uptoBulk d + uptoBulkAll r
def uptoBulkEntries {H : Type} : List (Lit × DataW H) → Nat
  | [] => 0
  | x :: r => uptoBulkEntry x + uptoBulkEntries r
def uptoBulkEntry {H : Type} : Lit × DataW H → Nat
  | (.string bytes, d) => bytes.length + uptoBulk d + 1
  | (_, d) => uptoBulk d + 1
 end
def uptoSmall : (H : Type) → List (DataW H) → Bool := fun _ ds => decide (uptoBulkAll ds ≤ 1048576)
def OpenSpec.upto (s : _root_.Go.ChangeSpec) : _root_.Go.OpenSpec := { _root_.Go.OpenSpec.ofChange s with cond := some uptoSmall }

/-- 'laws.FnExactProveBit', WHERE WHAT IT READS IS OF BULK AT MOST 1048576: true; the input reads as it did. -/
def fnExactProveBitUptoRow : OpenClaim := { program := "ytjfkkmfbgmejbaa", sum := "ea86f319ecb8298c084cade80a795421dc21d18d0dac8a8a5d5a43765c0587d3", func := "loop.example/g01095/laws.FnExactProveBit", spec := "fnExactProveBit", apart := false, narrowed := true }
def FnExactProveBitUptoSaid : Prop := fnExactProveBitUptoRow.holds Try.pinned (OpenSpec.upto fnExactProveBitSpec)

/-- 'laws.FnExactIsBitProof', WHERE WHAT IT READS IS OF BULK AT MOST 1048576: true; the input reads as it did. -/
def fnExactIsBitProofUptoRow : OpenClaim := { program := "ytjfkkmfbgmejbaa", sum := "ea86f319ecb8298c084cade80a795421dc21d18d0dac8a8a5d5a43765c0587d3", func := "loop.example/g01095/laws.FnExactIsBitProof", spec := "fnExactIsBitProof", apart := false, narrowed := true }
def FnExactIsBitProofUptoSaid : Prop := fnExactIsBitProofUptoRow.holds Try.pinned (OpenSpec.upto fnExactIsBitProofSpec)

/-- 'laws.FnExactSealBallot', WHERE WHAT IT READS IS OF BULK AT MOST 1048576: true; the input reads as it did. -/
def fnExactSealBallotUptoRow : OpenClaim := { program := "ytjfkkmfbgmejbaa", sum := "ea86f319ecb8298c084cade80a795421dc21d18d0dac8a8a5d5a43765c0587d3", func := "loop.example/g01095/laws.FnExactSealBallot", spec := "fnExactSealBallot", unfollowed := true, recurses := true, apart := false, narrowed := true }
def FnExactSealBallotUptoSaid : Prop := fnExactSealBallotUptoRow.holds Try.pinned (OpenSpec.upto fnExactSealBallotSpec)

/-- 'laws.FnExactIsBallot', WHERE WHAT IT READS IS OF BULK AT MOST 1048576: true; the input reads as it did. -/
def fnExactIsBallotUptoRow : OpenClaim := { program := "ytjfkkmfbgmejbaa", sum := "ea86f319ecb8298c084cade80a795421dc21d18d0dac8a8a5d5a43765c0587d3", func := "loop.example/g01095/laws.FnExactIsBallot", spec := "fnExactIsBallot", unfollowed := true, recurses := true, apart := false, narrowed := true }
def FnExactIsBallotUptoSaid : Prop := fnExactIsBallotUptoRow.holds Try.pinned (OpenSpec.upto fnExactIsBallotSpec)

/-- 'laws.FnExactCountSealed', WHERE WHAT IT READS IS OF BULK AT MOST 1048576: true; the input reads as it did. -/
def fnExactCountSealedUptoRow : OpenClaim := { program := "ytjfkkmfbgmejbaa", sum := "ea86f319ecb8298c084cade80a795421dc21d18d0dac8a8a5d5a43765c0587d3", func := "loop.example/g01095/laws.FnExactCountSealed", spec := "fnExactCountSealed", unfollowed := true, recurses := true, apart := false, narrowed := true }
def FnExactCountSealedUptoSaid : Prop := fnExactCountSealedUptoRow.holds Try.pinned (OpenSpec.upto fnExactCountSealedSpec)

/-- 'laws.FnExactIsOpening', WHERE WHAT IT READS IS OF BULK AT MOST 1048576: true; the input reads as it did. -/
def fnExactIsOpeningUptoRow : OpenClaim := { program := "ytjfkkmfbgmejbaa", sum := "ea86f319ecb8298c084cade80a795421dc21d18d0dac8a8a5d5a43765c0587d3", func := "loop.example/g01095/laws.FnExactIsOpening", spec := "fnExactIsOpening", unfollowed := true, recurses := true, apart := false, narrowed := true }
def FnExactIsOpeningUptoSaid : Prop := fnExactIsOpeningUptoRow.holds Try.pinned (OpenSpec.upto fnExactIsOpeningSpec)

/-- 'laws.FnExactMixSeals', WHERE WHAT IT READS IS OF BULK AT MOST 1048576: true; the input reads as it did. -/
def fnExactMixSealsUptoRow : OpenClaim := { program := "ytjfkkmfbgmejbaa", sum := "ea86f319ecb8298c084cade80a795421dc21d18d0dac8a8a5d5a43765c0587d3", func := "loop.example/g01095/laws.FnExactMixSeals", spec := "fnExactMixSeals", unfollowed := true, recurses := true, apart := false, narrowed := true }
def FnExactMixSealsUptoSaid : Prop := fnExactMixSealsUptoRow.holds Try.pinned (OpenSpec.upto fnExactMixSealsSpec)

/-- 'laws.FnExactComposeMixes', WHERE WHAT IT READS IS OF BULK AT MOST 1048576: true; the input reads as it did. -/
def fnExactComposeMixesUptoRow : OpenClaim := { program := "ytjfkkmfbgmejbaa", sum := "ea86f319ecb8298c084cade80a795421dc21d18d0dac8a8a5d5a43765c0587d3", func := "loop.example/g01095/laws.FnExactComposeMixes", spec := "fnExactComposeMixes", unfollowed := true, recurses := true, apart := false, narrowed := true }
def FnExactComposeMixesUptoSaid : Prop := fnExactComposeMixesUptoRow.holds Try.pinned (OpenSpec.upto fnExactComposeMixesSpec)

end Rows
end Go.Proofs.Ytjfkkmfbgmejbaa

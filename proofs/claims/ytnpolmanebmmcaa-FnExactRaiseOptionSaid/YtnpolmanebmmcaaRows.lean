/-
  No cell of these rows narrows 'for every input' (looked for: loops, veiled, ifaces, maps, wideKeys, modest, calm, conditions, laid).
  DERIVED. THE GIVEN ROWS OF THIS SEAT. 7 by the template 'for every input the law returns true; each argument reads behind the call as it read before'; 0 by the template 'total and deterministic' (their statements: YtnpolmanebmmcaaTotals.lean).
  GIVEN WITH THE SEED: the statements are not yours to turn. If you find one false, say at which input.
  Laid BY PROGRAM, IN A SANDBOX (cutbox-rows.mjs): the forced cells as the released guide's own fill.sh prints them over the translation e60831497b928fde… (all of the seat's roots in one cut). By AI agents, Wed Nov 11 2026. No macro, syntax, notation, axiom, sorry.
-/
import Derived.Test.YtnpolmanebmmcaaChecked
import GoSem.Claim
import GoSem.ClaimJoined
import GoSem.ClaimMapViews
import Derived.JoinedTies
import Derived.KernelRfl
namespace Go.Proofs.Ytnpolmanebmmcaa
/- THE CELL 'sum', in the pinned program and in every row, IS THE sha256 OF THE DUMP (.gsa) THAT YtnpolmanebmmcaaProg.lean LOADS. Nothing in Lean hashes anything: it is a label: what it is worth is what the hold of that sum in a sandbox is worth. -/
noncomputable def Try.pinned : Pinned := { name := "ytnpolmanebmmcaa", sum := "e60831497b928fde5ca187977b31e6637459a5d23098963a49b2b8ccaf6cb130", checked := Try.checked }
namespace Rows
def none {H : Type} : Left H := { results := [], args := [] }

/-- 'laws.FnExactValidProfile': WHATEVER THE INPUT: true; the input reads as it did. -/
def fnExactValidProfileSpec : ChangeSpec := { name := "fnExactValidProfile", fn := fun _ => fun
  | [d] => { results := [.lit (.bool true)], args := [d] }
  | _ => none }
def fnExactValidProfileRow : OpenClaim := { program := "ytnpolmanebmmcaa", sum := "e60831497b928fde5ca187977b31e6637459a5d23098963a49b2b8ccaf6cb130", func := "loop.example/g01095/laws.FnExactValidProfile", spec := "fnExactValidProfile", unfollowed := true, recurses := true, apart := false }
def FnExactValidProfileSaid : Prop := fnExactValidProfileRow.holds Try.pinned (OpenSpec.ofChange fnExactValidProfileSpec)

/-- ITS FALSE NEIGHBOUR: 'it returns false'. Refute it at one input. -/
def fnExactValidProfileWrong : ChangeSpec := { name := "fnExactValidProfile", fn := fun _ => fun
  | [d] => { results := [.lit (.bool false)], args := [d] }
  | _ => none }
def FnExactValidProfileWrongFalsely : Prop := fnExactValidProfileRow.holds Try.pinned (OpenSpec.ofChange fnExactValidProfileWrong)

/-- 'laws.FnExactCountPairs': WHATEVER THE INPUT: true; the input reads as it did. -/
def fnExactCountPairsSpec : ChangeSpec := { name := "fnExactCountPairs", fn := fun _ => fun
  | [d] => { results := [.lit (.bool true)], args := [d] }
  | _ => none }
def fnExactCountPairsRow : OpenClaim := { program := "ytnpolmanebmmcaa", sum := "e60831497b928fde5ca187977b31e6637459a5d23098963a49b2b8ccaf6cb130", func := "loop.example/g01095/laws.FnExactCountPairs", spec := "fnExactCountPairs", unfollowed := true, recurses := true, apart := false }
def FnExactCountPairsSaid : Prop := fnExactCountPairsRow.holds Try.pinned (OpenSpec.ofChange fnExactCountPairsSpec)

/-- ITS FALSE NEIGHBOUR: 'it returns false'. Refute it at one input. -/
def fnExactCountPairsWrong : ChangeSpec := { name := "fnExactCountPairs", fn := fun _ => fun
  | [d] => { results := [.lit (.bool false)], args := [d] }
  | _ => none }
def FnExactCountPairsWrongFalsely : Prop := fnExactCountPairsRow.holds Try.pinned (OpenSpec.ofChange fnExactCountPairsWrong)

/-- 'laws.FnExactBordaScores': WHATEVER THE INPUT: true; the input reads as it did. -/
def fnExactBordaScoresSpec : ChangeSpec := { name := "fnExactBordaScores", fn := fun _ => fun
  | [d] => { results := [.lit (.bool true)], args := [d] }
  | _ => none }
def fnExactBordaScoresRow : OpenClaim := { program := "ytnpolmanebmmcaa", sum := "e60831497b928fde5ca187977b31e6637459a5d23098963a49b2b8ccaf6cb130", func := "loop.example/g01095/laws.FnExactBordaScores", spec := "fnExactBordaScores", unfollowed := true, recurses := true, apart := false }
def FnExactBordaScoresSaid : Prop := fnExactBordaScoresRow.holds Try.pinned (OpenSpec.ofChange fnExactBordaScoresSpec)

/-- ITS FALSE NEIGHBOUR: 'it returns false'. Refute it at one input. -/
def fnExactBordaScoresWrong : ChangeSpec := { name := "fnExactBordaScores", fn := fun _ => fun
  | [d] => { results := [.lit (.bool false)], args := [d] }
  | _ => none }
def FnExactBordaScoresWrongFalsely : Prop := fnExactBordaScoresRow.holds Try.pinned (OpenSpec.ofChange fnExactBordaScoresWrong)

/-- 'laws.FnExactRaiseOption': WHATEVER THE INPUT: true; the input reads as it did. -/
def fnExactRaiseOptionSpec : ChangeSpec := { name := "fnExactRaiseOption", fn := fun _ => fun
  | [d1, d2, d3] => { results := [.lit (.bool true)], args := [d1, d2, d3] }
  | _ => none }
def fnExactRaiseOptionRow : OpenClaim := { program := "ytnpolmanebmmcaa", sum := "e60831497b928fde5ca187977b31e6637459a5d23098963a49b2b8ccaf6cb130", func := "loop.example/g01095/laws.FnExactRaiseOption", spec := "fnExactRaiseOption", unfollowed := true, recurses := true, apart := false }
def FnExactRaiseOptionSaid : Prop := fnExactRaiseOptionRow.holds Try.pinned (OpenSpec.ofChange fnExactRaiseOptionSpec)

/-- ITS FALSE NEIGHBOUR: 'it returns false'. Refute it at one input. -/
def fnExactRaiseOptionWrong : ChangeSpec := { name := "fnExactRaiseOption", fn := fun _ => fun
  | [d1, d2, d3] => { results := [.lit (.bool false)], args := [d1, d2, d3] }
  | _ => none }
def FnExactRaiseOptionWrongFalsely : Prop := fnExactRaiseOptionRow.holds Try.pinned (OpenSpec.ofChange fnExactRaiseOptionWrong)

/-- 'laws.FnExactDropOption': WHATEVER THE INPUT: true; the input reads as it did. -/
def fnExactDropOptionSpec : ChangeSpec := { name := "fnExactDropOption", fn := fun _ => fun
  | [d1, d2] => { results := [.lit (.bool true)], args := [d1, d2] }
  | _ => none }
def fnExactDropOptionRow : OpenClaim := { program := "ytnpolmanebmmcaa", sum := "e60831497b928fde5ca187977b31e6637459a5d23098963a49b2b8ccaf6cb130", func := "loop.example/g01095/laws.FnExactDropOption", spec := "fnExactDropOption", unfollowed := true, recurses := true, apart := false }
def FnExactDropOptionSaid : Prop := fnExactDropOptionRow.holds Try.pinned (OpenSpec.ofChange fnExactDropOptionSpec)

/-- ITS FALSE NEIGHBOUR: 'it returns false'. Refute it at one input. -/
def fnExactDropOptionWrong : ChangeSpec := { name := "fnExactDropOption", fn := fun _ => fun
  | [d1, d2] => { results := [.lit (.bool false)], args := [d1, d2] }
  | _ => none }
def FnExactDropOptionWrongFalsely : Prop := fnExactDropOptionRow.holds Try.pinned (OpenSpec.ofChange fnExactDropOptionWrong)

/-- 'laws.FnExactReverseProfile': WHATEVER THE INPUT: true; the input reads as it did. -/
def fnExactReverseProfileSpec : ChangeSpec := { name := "fnExactReverseProfile", fn := fun _ => fun
  | [d] => { results := [.lit (.bool true)], args := [d] }
  | _ => none }
def fnExactReverseProfileRow : OpenClaim := { program := "ytnpolmanebmmcaa", sum := "e60831497b928fde5ca187977b31e6637459a5d23098963a49b2b8ccaf6cb130", func := "loop.example/g01095/laws.FnExactReverseProfile", spec := "fnExactReverseProfile", unfollowed := true, recurses := true, apart := false }
def FnExactReverseProfileSaid : Prop := fnExactReverseProfileRow.holds Try.pinned (OpenSpec.ofChange fnExactReverseProfileSpec)

/-- ITS FALSE NEIGHBOUR: 'it returns false'. Refute it at one input. -/
def fnExactReverseProfileWrong : ChangeSpec := { name := "fnExactReverseProfile", fn := fun _ => fun
  | [d] => { results := [.lit (.bool false)], args := [d] }
  | _ => none }
def FnExactReverseProfileWrongFalsely : Prop := fnExactReverseProfileRow.holds Try.pinned (OpenSpec.ofChange fnExactReverseProfileWrong)

/-- 'laws.FnExactDisagreementOf': WHATEVER THE INPUT: true; the input reads as it did. -/
def fnExactDisagreementOfSpec : ChangeSpec := { name := "fnExactDisagreementOf", fn := fun _ => fun
  | [d1, d2] => { results := [.lit (.bool true)], args := [d1, d2] }
  | _ => none }
def fnExactDisagreementOfRow : OpenClaim := { program := "ytnpolmanebmmcaa", sum := "e60831497b928fde5ca187977b31e6637459a5d23098963a49b2b8ccaf6cb130", func := "loop.example/g01095/laws.FnExactDisagreementOf", spec := "fnExactDisagreementOf", unfollowed := true, recurses := true, apart := false }
def FnExactDisagreementOfSaid : Prop := fnExactDisagreementOfRow.holds Try.pinned (OpenSpec.ofChange fnExactDisagreementOfSpec)

/-- ITS FALSE NEIGHBOUR: 'it returns false'. Refute it at one input. -/
def fnExactDisagreementOfWrong : ChangeSpec := { name := "fnExactDisagreementOf", fn := fun _ => fun
  | [d1, d2] => { results := [.lit (.bool false)], args := [d1, d2] }
  | _ => none }
def FnExactDisagreementOfWrongFalsely : Prop := fnExactDisagreementOfRow.holds Try.pinned (OpenSpec.ofChange fnExactDisagreementOfWrong)

/- THE SECOND FORM. 'bulk': how many values and letters a reading holds, each counted each time it is reached (what is shared counts as often as it is met; a slice's spare places count too). A statement '..UptoSaid' is the law's where the arguments, and the package variables that the reading takes, are together of bulk at most 1048576: NARROWER than '..Said'. Prove '..Said' where nothing that the law and all that it calls make is longer than what came in: it says more and counts as full. Else prove '..UptoSaid'. A law counts once. -/
mutual
def uptoBulk {H : Type} : DataW H → Nat
  | .lit (.string bytes) => bytes.length + 1
  | .lit _ => 1
  | .nil => 1
  | .ptr d => uptoBulk d + 1
  | .slice elems spare => uptoBulkAll elems + uptoBulkAll spare + 1
  | .agg parts => uptoBulkAll parts + 1
  | .iface _ d => uptoBulk d + 1
  | .map entries => uptoBulkEntries entries + 1
  | .held _ => 1
def uptoBulkAll {H : Type} : List (DataW H) → Nat
  | [] => 0
  | d :: r => uptoBulk d + uptoBulkAll r
def uptoBulkEntries {H : Type} : List (Lit × DataW H) → Nat
  | [] => 0
  | x :: r => uptoBulkEntry x + uptoBulkEntries r
def uptoBulkEntry {H : Type} : Lit × DataW H → Nat
  | (.string bytes, d) => bytes.length + uptoBulk d + 1
  | (_, d) => uptoBulk d + 1
 end
def uptoSmall : (H : Type) → List (DataW H) → Bool := fun _ ds => decide (uptoBulkAll ds ≤ 1048576)
def OpenSpec.upto (s : _root_.Go.ChangeSpec) : _root_.Go.OpenSpec := { _root_.Go.OpenSpec.ofChange s with cond := some uptoSmall }

/-- 'laws.FnExactValidProfile', WHERE WHAT IT READS IS OF BULK AT MOST 1048576: true; the input reads as it did. -/
def fnExactValidProfileUptoRow : OpenClaim := { program := "ytnpolmanebmmcaa", sum := "e60831497b928fde5ca187977b31e6637459a5d23098963a49b2b8ccaf6cb130", func := "loop.example/g01095/laws.FnExactValidProfile", spec := "fnExactValidProfile", unfollowed := true, recurses := true, apart := false, narrowed := true }
def FnExactValidProfileUptoSaid : Prop := fnExactValidProfileUptoRow.holds Try.pinned (OpenSpec.upto fnExactValidProfileSpec)

/-- 'laws.FnExactCountPairs', WHERE WHAT IT READS IS OF BULK AT MOST 1048576: true; the input reads as it did. -/
def fnExactCountPairsUptoRow : OpenClaim := { program := "ytnpolmanebmmcaa", sum := "e60831497b928fde5ca187977b31e6637459a5d23098963a49b2b8ccaf6cb130", func := "loop.example/g01095/laws.FnExactCountPairs", spec := "fnExactCountPairs", unfollowed := true, recurses := true, apart := false, narrowed := true }
def FnExactCountPairsUptoSaid : Prop := fnExactCountPairsUptoRow.holds Try.pinned (OpenSpec.upto fnExactCountPairsSpec)

/-- 'laws.FnExactBordaScores', WHERE WHAT IT READS IS OF BULK AT MOST 1048576: true; the input reads as it did. -/
def fnExactBordaScoresUptoRow : OpenClaim := { program := "ytnpolmanebmmcaa", sum := "e60831497b928fde5ca187977b31e6637459a5d23098963a49b2b8ccaf6cb130", func := "loop.example/g01095/laws.FnExactBordaScores", spec := "fnExactBordaScores", unfollowed := true, recurses := true, apart := false, narrowed := true }
def FnExactBordaScoresUptoSaid : Prop := fnExactBordaScoresUptoRow.holds Try.pinned (OpenSpec.upto fnExactBordaScoresSpec)

/-- 'laws.FnExactRaiseOption', WHERE WHAT IT READS IS OF BULK AT MOST 1048576: true; the input reads as it did. -/
def fnExactRaiseOptionUptoRow : OpenClaim := { program := "ytnpolmanebmmcaa", sum := "e60831497b928fde5ca187977b31e6637459a5d23098963a49b2b8ccaf6cb130", func := "loop.example/g01095/laws.FnExactRaiseOption", spec := "fnExactRaiseOption", unfollowed := true, recurses := true, apart := false, narrowed := true }
def FnExactRaiseOptionUptoSaid : Prop := fnExactRaiseOptionUptoRow.holds Try.pinned (OpenSpec.upto fnExactRaiseOptionSpec)

/-- 'laws.FnExactDropOption', WHERE WHAT IT READS IS OF BULK AT MOST 1048576: true; the input reads as it did. -/
def fnExactDropOptionUptoRow : OpenClaim := { program := "ytnpolmanebmmcaa", sum := "e60831497b928fde5ca187977b31e6637459a5d23098963a49b2b8ccaf6cb130", func := "loop.example/g01095/laws.FnExactDropOption", spec := "fnExactDropOption", unfollowed := true, recurses := true, apart := false, narrowed := true }
def FnExactDropOptionUptoSaid : Prop := fnExactDropOptionUptoRow.holds Try.pinned (OpenSpec.upto fnExactDropOptionSpec)

/-- 'laws.FnExactReverseProfile', WHERE WHAT IT READS IS OF BULK AT MOST 1048576: true; the input reads as it did. -/
def fnExactReverseProfileUptoRow : OpenClaim := { program := "ytnpolmanebmmcaa", sum := "e60831497b928fde5ca187977b31e6637459a5d23098963a49b2b8ccaf6cb130", func := "loop.example/g01095/laws.FnExactReverseProfile", spec := "fnExactReverseProfile", unfollowed := true, recurses := true, apart := false, narrowed := true }
def FnExactReverseProfileUptoSaid : Prop := fnExactReverseProfileUptoRow.holds Try.pinned (OpenSpec.upto fnExactReverseProfileSpec)

/-- 'laws.FnExactDisagreementOf', WHERE WHAT IT READS IS OF BULK AT MOST 1048576: true; the input reads as it did. -/
def fnExactDisagreementOfUptoRow : OpenClaim := { program := "ytnpolmanebmmcaa", sum := "e60831497b928fde5ca187977b31e6637459a5d23098963a49b2b8ccaf6cb130", func := "loop.example/g01095/laws.FnExactDisagreementOf", spec := "fnExactDisagreementOf", unfollowed := true, recurses := true, apart := false, narrowed := true }
def FnExactDisagreementOfUptoSaid : Prop := fnExactDisagreementOfUptoRow.holds Try.pinned (OpenSpec.upto fnExactDisagreementOfSpec)

end Rows
end Go.Proofs.Ytnpolmanebmmcaa

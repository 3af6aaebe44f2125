/-
  No cell of these rows narrows 'for every input' (looked for: loops, veiled, ifaces, maps, wideKeys, modest, calm, conditions, laid).
  DERIVED. THE GIVEN ROWS OF THIS SEAT. 8 by the template 'for every input the law returns true; each argument reads behind the call as it read before'; 0 by the template 'total and deterministic' (their statements: YtgoocglcgkfgmaaTotals.lean).
  GIVEN WITH THE SEED: the statements are not yours to turn. If you find one false, say at which input.
  Laid BY PROGRAM, IN A SANDBOX (cutbox-rows.mjs): the forced cells as the released guide's own fill.sh prints them over the translation 8a40bdcd018e19a7… (all of the seat's roots in one cut). By AI agents, Wed Nov 11 2026. No macro, syntax, notation, axiom, sorry.
-/
import Derived.Test.YtgoocglcgkfgmaaChecked
import GoSem.Claim
import GoSem.ClaimJoined
import GoSem.ClaimMapViews
import Derived.JoinedTies
import Derived.KernelRfl
namespace Go.Proofs.Ytgoocglcgkfgmaa
/- THE CELL 'sum', in the pinned program and in every row, IS THE sha256 OF THE DUMP (.gsa) THAT YtgoocglcgkfgmaaProg.lean LOADS. Nothing in Lean hashes anything: it is a label: what it is worth is what the hold of that sum in a sandbox is worth. -/
noncomputable def Try.pinned : Pinned := { name := "ytgoocglcgkfgmaa", sum := "8a40bdcd018e19a77b1acbd67065d1c401b803b7fc06d0d727c60ecb7806cbfa", checked := Try.checked }
namespace Rows
def none {H : Type} : Left H := { results := [], args := [] }

/-- 'laws.FnExactIsSeal': WHATEVER THE INPUT: true; the input reads as it did. -/
def fnExactIsSealSpec : ChangeSpec := { name := "fnExactIsSeal", fn := fun _ => fun
  | [d] => { results := [.lit (.bool true)], args := [d] }
  | _ => none }
def fnExactIsSealRow : OpenClaim := { program := "ytgoocglcgkfgmaa", sum := "8a40bdcd018e19a77b1acbd67065d1c401b803b7fc06d0d727c60ecb7806cbfa", func := "loop.example/g01095/laws.FnExactIsSeal", spec := "fnExactIsSeal", apart := false }
def FnExactIsSealSaid : Prop := fnExactIsSealRow.holds Try.pinned (OpenSpec.ofChange fnExactIsSealSpec)

/-- ITS FALSE NEIGHBOUR: 'it returns false'. Refute it at one input. -/
def fnExactIsSealWrong : ChangeSpec := { name := "fnExactIsSeal", fn := fun _ => fun
  | [d] => { results := [.lit (.bool false)], args := [d] }
  | _ => none }
def FnExactIsSealWrongFalsely : Prop := fnExactIsSealRow.holds Try.pinned (OpenSpec.ofChange fnExactIsSealWrong)

/-- 'laws.FnExactSealOf': WHATEVER THE INPUT: true; the input reads as it did. -/
def fnExactSealOfSpec : ChangeSpec := { name := "fnExactSealOf", fn := fun _ => fun
  | [d1, d2] => { results := [.lit (.bool true)], args := [d1, d2] }
  | _ => none }
def fnExactSealOfRow : OpenClaim := { program := "ytgoocglcgkfgmaa", sum := "8a40bdcd018e19a77b1acbd67065d1c401b803b7fc06d0d727c60ecb7806cbfa", func := "loop.example/g01095/laws.FnExactSealOf", spec := "fnExactSealOf", apart := false }
def FnExactSealOfSaid : Prop := fnExactSealOfRow.holds Try.pinned (OpenSpec.ofChange fnExactSealOfSpec)

/-- ITS FALSE NEIGHBOUR: 'it returns false'. Refute it at one input. -/
def fnExactSealOfWrong : ChangeSpec := { name := "fnExactSealOf", fn := fun _ => fun
  | [d1, d2] => { results := [.lit (.bool false)], args := [d1, d2] }
  | _ => none }
def FnExactSealOfWrongFalsely : Prop := fnExactSealOfRow.holds Try.pinned (OpenSpec.ofChange fnExactSealOfWrong)

/-- 'laws.FnExactJoinSeals': WHATEVER THE INPUT: true; the input reads as it did. -/
def fnExactJoinSealsSpec : ChangeSpec := { name := "fnExactJoinSeals", fn := fun _ => fun
  | [d1, d2] => { results := [.lit (.bool true)], args := [d1, d2] }
  | _ => none }
def fnExactJoinSealsRow : OpenClaim := { program := "ytgoocglcgkfgmaa", sum := "8a40bdcd018e19a77b1acbd67065d1c401b803b7fc06d0d727c60ecb7806cbfa", func := "loop.example/g01095/laws.FnExactJoinSeals", spec := "fnExactJoinSeals", unfollowed := true, recurses := true, apart := false }
def FnExactJoinSealsSaid : Prop := fnExactJoinSealsRow.holds Try.pinned (OpenSpec.ofChange fnExactJoinSealsSpec)

/-- ITS FALSE NEIGHBOUR: 'it returns false'. Refute it at one input. -/
def fnExactJoinSealsWrong : ChangeSpec := { name := "fnExactJoinSeals", fn := fun _ => fun
  | [d1, d2] => { results := [.lit (.bool false)], args := [d1, d2] }
  | _ => none }
def FnExactJoinSealsWrongFalsely : Prop := fnExactJoinSealsRow.holds Try.pinned (OpenSpec.ofChange fnExactJoinSealsWrong)

/-- 'laws.FnExactJoinKeys': WHATEVER THE INPUT: true; the input reads as it did. -/
def fnExactJoinKeysSpec : ChangeSpec := { name := "fnExactJoinKeys", fn := fun _ => fun
  | [d1, d2] => { results := [.lit (.bool true)], args := [d1, d2] }
  | _ => none }
def fnExactJoinKeysRow : OpenClaim := { program := "ytgoocglcgkfgmaa", sum := "8a40bdcd018e19a77b1acbd67065d1c401b803b7fc06d0d727c60ecb7806cbfa", func := "loop.example/g01095/laws.FnExactJoinKeys", spec := "fnExactJoinKeys", apart := false }
def FnExactJoinKeysSaid : Prop := fnExactJoinKeysRow.holds Try.pinned (OpenSpec.ofChange fnExactJoinKeysSpec)

/-- ITS FALSE NEIGHBOUR: 'it returns false'. Refute it at one input. -/
def fnExactJoinKeysWrong : ChangeSpec := { name := "fnExactJoinKeys", fn := fun _ => fun
  | [d1, d2] => { results := [.lit (.bool false)], args := [d1, d2] }
  | _ => none }
def FnExactJoinKeysWrongFalsely : Prop := fnExactJoinKeysRow.holds Try.pinned (OpenSpec.ofChange fnExactJoinKeysWrong)

/-- 'laws.FnExactChallengeOf': WHATEVER THE INPUT: true; the input reads as it did. -/
def fnExactChallengeOfSpec : ChangeSpec := { name := "fnExactChallengeOf", fn := fun _ => fun
  | [d] => { results := [.lit (.bool true)], args := [d] }
  | _ => none }
def fnExactChallengeOfRow : OpenClaim := { program := "ytgoocglcgkfgmaa", sum := "8a40bdcd018e19a77b1acbd67065d1c401b803b7fc06d0d727c60ecb7806cbfa", func := "loop.example/g01095/laws.FnExactChallengeOf", spec := "fnExactChallengeOf", apart := false }
def FnExactChallengeOfSaid : Prop := fnExactChallengeOfRow.holds Try.pinned (OpenSpec.ofChange fnExactChallengeOfSpec)

/-- ITS FALSE NEIGHBOUR: 'it returns false'. Refute it at one input. -/
def fnExactChallengeOfWrong : ChangeSpec := { name := "fnExactChallengeOf", fn := fun _ => fun
  | [d] => { results := [.lit (.bool false)], args := [d] }
  | _ => none }
def FnExactChallengeOfWrongFalsely : Prop := fnExactChallengeOfRow.holds Try.pinned (OpenSpec.ofChange fnExactChallengeOfWrong)

/-- 'laws.FnExactAuditOrder': WHATEVER THE INPUT: true; the input reads as it did. -/
def fnExactAuditOrderSpec : ChangeSpec := { name := "fnExactAuditOrder", fn := fun _ => fun
  | [d1, d2] => { results := [.lit (.bool true)], args := [d1, d2] }
  | _ => none }
def fnExactAuditOrderRow : OpenClaim := { program := "ytgoocglcgkfgmaa", sum := "8a40bdcd018e19a77b1acbd67065d1c401b803b7fc06d0d727c60ecb7806cbfa", func := "loop.example/g01095/laws.FnExactAuditOrder", spec := "fnExactAuditOrder", apart := false }
def FnExactAuditOrderSaid : Prop := fnExactAuditOrderRow.holds Try.pinned (OpenSpec.ofChange fnExactAuditOrderSpec)

/-- ITS FALSE NEIGHBOUR: 'it returns false'. Refute it at one input. -/
def fnExactAuditOrderWrong : ChangeSpec := { name := "fnExactAuditOrder", fn := fun _ => fun
  | [d1, d2] => { results := [.lit (.bool false)], args := [d1, d2] }
  | _ => none }
def FnExactAuditOrderWrongFalsely : Prop := fnExactAuditOrderRow.holds Try.pinned (OpenSpec.ofChange fnExactAuditOrderWrong)

/-- 'laws.FnExactOpenCount': WHATEVER THE INPUT: true; the input reads as it did. -/
def fnExactOpenCountSpec : ChangeSpec := { name := "fnExactOpenCount", fn := fun _ => fun
  | [d1, d2] => { results := [.lit (.bool true)], args := [d1, d2] }
  | _ => none }
def fnExactOpenCountRow : OpenClaim := { program := "ytgoocglcgkfgmaa", sum := "8a40bdcd018e19a77b1acbd67065d1c401b803b7fc06d0d727c60ecb7806cbfa", func := "loop.example/g01095/laws.FnExactOpenCount", spec := "fnExactOpenCount", unfollowed := true, recurses := true, apart := false }
def FnExactOpenCountSaid : Prop := fnExactOpenCountRow.holds Try.pinned (OpenSpec.ofChange fnExactOpenCountSpec)

/-- ITS FALSE NEIGHBOUR: 'it returns false'. Refute it at one input. -/
def fnExactOpenCountWrong : ChangeSpec := { name := "fnExactOpenCount", fn := fun _ => fun
  | [d1, d2] => { results := [.lit (.bool false)], args := [d1, d2] }
  | _ => none }
def FnExactOpenCountWrongFalsely : Prop := fnExactOpenCountRow.holds Try.pinned (OpenSpec.ofChange fnExactOpenCountWrong)

/-- 'laws.FnExactAdoptedBy': WHATEVER THE INPUT: true; the input reads as it did. -/
def fnExactAdoptedBySpec : ChangeSpec := { name := "fnExactAdoptedBy", fn := fun _ => fun
  | [d1, d2] => { results := [.lit (.bool true)], args := [d1, d2] }
  | _ => none }
def fnExactAdoptedByRow : OpenClaim := { program := "ytgoocglcgkfgmaa", sum := "8a40bdcd018e19a77b1acbd67065d1c401b803b7fc06d0d727c60ecb7806cbfa", func := "loop.example/g01095/laws.FnExactAdoptedBy", spec := "fnExactAdoptedBy", unfollowed := true, recurses := true, apart := false }
def FnExactAdoptedBySaid : Prop := fnExactAdoptedByRow.holds Try.pinned (OpenSpec.ofChange fnExactAdoptedBySpec)

/-- ITS FALSE NEIGHBOUR: 'it returns false'. Refute it at one input. -/
def fnExactAdoptedByWrong : ChangeSpec := { name := "fnExactAdoptedBy", fn := fun _ => fun
  | [d1, d2] => { results := [.lit (.bool false)], args := [d1, d2] }
  | _ => none }
def FnExactAdoptedByWrongFalsely : Prop := fnExactAdoptedByRow.holds Try.pinned (OpenSpec.ofChange fnExactAdoptedByWrong)

/- THE SECOND FORM. 'bulk': how many values and letters a reading holds, each counted each time it is reached (what is shared counts as often as it is met; a slice's spare places count too). A statement '..UptoSaid' is the law's where the arguments, and the package variables that the reading takes, are together of bulk at most 1048576: NARROWER than '..Said'. Prove '..Said' where nothing that the law and all that it calls make is longer than what came in: it says more and counts as full. Else prove '..UptoSaid'. A law counts once. -/
mutual
def uptoBulk {H : Type} : DataW H → Nat
  | .lit (.string bytes) => bytes.length + 1
  | .lit _ => 1
  | .nil => 1
  | .ptr d => uptoBulk d + 1
  | .slice elems spare => uptoBulkAll elems + uptoBulkAll spare + 1
  | .agg parts => uptoBulkAll parts + 1
  | .iface _ d => uptoBulk d + 1
  | .map entries => uptoBulkEntries entries + 1
  | .held _ => 1
def uptoBulkAll {H : Type} : List (DataW H) → Nat
  | [] => 0
  | d :: r => uptoBulk d + uptoBulkAll r
def uptoBulkEntries {H : Type} : List (Lit × DataW H) → Nat
  | [] => 0
  | x :: r => uptoBulkEntry x + uptoBulkEntries r
def uptoBulkEntry {H : Type} : Lit × DataW H → Nat
  | (.string bytes, d) => bytes.length + uptoBulk d + 1
  | (_, d) => uptoBulk d + 1
 end
def uptoSmall : (H : Type) → List (DataW H) → Bool := fun _ ds => decide (uptoBulkAll ds ≤ 1048576)
def OpenSpec.upto (s : _root_.Go.ChangeSpec) : _root_.Go.OpenSpec := { _root_.Go.OpenSpec.ofChange s with cond := some uptoSmall }

/-- 'laws.FnExactIsSeal', WHERE WHAT IT READS IS OF BULK AT MOST 1048576: true; the input reads as it did. -/
def fnExactIsSealUptoRow : OpenClaim := { program := "ytgoocglcgkfgmaa", sum := "8a40bdcd018e19a77b1acbd67065d1c401b803b7fc06d0d727c60ecb7806cbfa", func := "loop.example/g01095/laws.FnExactIsSeal", spec := "fnExactIsSeal", apart := false, narrowed := true }
def FnExactIsSealUptoSaid : Prop := fnExactIsSealUptoRow.holds Try.pinned (OpenSpec.upto fnExactIsSealSpec)

/-- 'laws.FnExactSealOf', WHERE WHAT IT READS IS OF BULK AT MOST 1048576: true; the input reads as it did. -/
def fnExactSealOfUptoRow : OpenClaim := { program := "ytgoocglcgkfgmaa", sum := "8a40bdcd018e19a77b1acbd67065d1c401b803b7fc06d0d727c60ecb7806cbfa", func := "loop.example/g01095/laws.FnExactSealOf", spec := "fnExactSealOf", apart := false, narrowed := true }
def FnExactSealOfUptoSaid : Prop := fnExactSealOfUptoRow.holds Try.pinned (OpenSpec.upto fnExactSealOfSpec)

/-- 'laws.FnExactJoinSeals', WHERE WHAT IT READS IS OF BULK AT MOST 1048576: true; the input reads as it did. -/
def fnExactJoinSealsUptoRow : OpenClaim := { program := "ytgoocglcgkfgmaa", sum := "8a40bdcd018e19a77b1acbd67065d1c401b803b7fc06d0d727c60ecb7806cbfa", func := "loop.example/g01095/laws.FnExactJoinSeals", spec := "fnExactJoinSeals", unfollowed := true, recurses := true, apart := false, narrowed := true }
def FnExactJoinSealsUptoSaid : Prop := fnExactJoinSealsUptoRow.holds Try.pinned (OpenSpec.upto fnExactJoinSealsSpec)

/-- 'laws.FnExactJoinKeys', WHERE WHAT IT READS IS OF BULK AT MOST 1048576: true; the input reads as it did. -/
def fnExactJoinKeysUptoRow : OpenClaim := { program := "ytgoocglcgkfgmaa", sum := "8a40bdcd018e19a77b1acbd67065d1c401b803b7fc06d0d727c60ecb7806cbfa", func := "loop.example/g01095/laws.FnExactJoinKeys", spec := "fnExactJoinKeys", apart := false, narrowed := true }
def FnExactJoinKeysUptoSaid : Prop := fnExactJoinKeysUptoRow.holds Try.pinned (OpenSpec.upto fnExactJoinKeysSpec)

/-- 'laws.FnExactChallengeOf', WHERE WHAT IT READS IS OF BULK AT MOST 1048576: true; the input reads as it did. -/
def fnExactChallengeOfUptoRow : OpenClaim := { program := "ytgoocglcgkfgmaa", sum := "8a40bdcd018e19a77b1acbd67065d1c401b803b7fc06d0d727c60ecb7806cbfa", func := "loop.example/g01095/laws.FnExactChallengeOf", spec := "fnExactChallengeOf", apart := false, narrowed := true }
def FnExactChallengeOfUptoSaid : Prop := fnExactChallengeOfUptoRow.holds Try.pinned (OpenSpec.upto fnExactChallengeOfSpec)

/-- 'laws.FnExactAuditOrder', WHERE WHAT IT READS IS OF BULK AT MOST 1048576: true; the input reads as it did. -/
def fnExactAuditOrderUptoRow : OpenClaim := { program := "ytgoocglcgkfgmaa", sum := "8a40bdcd018e19a77b1acbd67065d1c401b803b7fc06d0d727c60ecb7806cbfa", func := "loop.example/g01095/laws.FnExactAuditOrder", spec := "fnExactAuditOrder", apart := false, narrowed := true }
def FnExactAuditOrderUptoSaid : Prop := fnExactAuditOrderUptoRow.holds Try.pinned (OpenSpec.upto fnExactAuditOrderSpec)

/-- 'laws.FnExactOpenCount', WHERE WHAT IT READS IS OF BULK AT MOST 1048576: true; the input reads as it did. -/
def fnExactOpenCountUptoRow : OpenClaim := { program := "ytgoocglcgkfgmaa", sum := "8a40bdcd018e19a77b1acbd67065d1c401b803b7fc06d0d727c60ecb7806cbfa", func := "loop.example/g01095/laws.FnExactOpenCount", spec := "fnExactOpenCount", unfollowed := true, recurses := true, apart := false, narrowed := true }
def FnExactOpenCountUptoSaid : Prop := fnExactOpenCountUptoRow.holds Try.pinned (OpenSpec.upto fnExactOpenCountSpec)

/-- 'laws.FnExactAdoptedBy', WHERE WHAT IT READS IS OF BULK AT MOST 1048576: true; the input reads as it did. -/
def fnExactAdoptedByUptoRow : OpenClaim := { program := "ytgoocglcgkfgmaa", sum := "8a40bdcd018e19a77b1acbd67065d1c401b803b7fc06d0d727c60ecb7806cbfa", func := "loop.example/g01095/laws.FnExactAdoptedBy", spec := "fnExactAdoptedBy", unfollowed := true, recurses := true, apart := false, narrowed := true }
def FnExactAdoptedByUptoSaid : Prop := fnExactAdoptedByUptoRow.holds Try.pinned (OpenSpec.upto fnExactAdoptedBySpec)

end Rows
end Go.Proofs.Ytgoocglcgkfgmaa

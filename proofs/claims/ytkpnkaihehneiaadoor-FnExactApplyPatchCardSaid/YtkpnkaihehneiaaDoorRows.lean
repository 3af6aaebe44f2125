/-
  NARROWER THAN 'FOR EVERY INPUT', by the rows' own cells (each row's printed sentence says how): FnExactValidStatute: laid · FnExactValidPatch: laid · FnExactInversePatch: laid · FnExactConflictsOf: laid · FnExactRebasePatch: laid · FnExactValidActs: laid · FnExactActsInForce: laid · FnExactApplyPatch: laid.
  DERIVED. THE GIVEN ROWS OF THIS SEAT. 8 by the template 'for every input the law returns true; each argument reads behind the call as it read before'; 0 by the template 'total and deterministic' (their statements: YtkpnkaihehneiaaDoorTotals.lean).
  GIVEN WITH THE SEED: the statements are not yours to turn. If you find one false, say at which input.
  Laid BY PROGRAM, IN A SANDBOX (cutbox-rows.mjs): the forced cells as the released guide's own fill.sh prints them over the translation 5b8e545eb542ead6… (all of the seat's roots in one cut). By AI agents, Wed Nov 11 2026. No macro, syntax, notation, axiom, sorry.
-/
import Derived.Test.YtkpnkaihehneiaaDoorChecked
import GoSem.PinnedTables
import GoSem.Claim
import GoSem.ClaimJoined
import GoSem.ClaimMapViews
import Derived.JoinedTies
import Derived.KernelRfl
namespace Go.Proofs.YtkpnkaihehneiaaDoor
/- THE CELL 'sum', in the pinned program and in every row, IS THE sha256 OF THE DUMP (.gsa) THAT YtkpnkaihehneiaaDoorProg.lean LOADS. Nothing in Lean hashes anything: it is a label: what it is worth is what the hold of that sum in a sandbox is worth. -/
noncomputable def Tryd.pinned : Pinned := { name := "ytkpnkaihehneiaadoor", sum := "5b8e545eb542ead62634e88a9622eb8d39510fa0f4f41a9ea192c2d79219470b", checked := Tryd.checked }
namespace Rows
def none {H : Type} : Left H := { results := [], args := [] }

/- WHAT THE LISTED PACKAGE-LEVEL VARIABLES READ AS WHEN THE CALL BEGINS. Each datum BY PROGRAM (the guide's laid-datum.mjs) off the statement by which the dump's own 'gosem.cut.vars' lays the variable. In a bare row this is a premise. The card (YtkpnkaihehneiaaDoorCards.lean) ties it to the program's text. -/
def laid_unicode_utf8_acceptRanges {H : Type} : DataW H := .agg [.agg [.lit (.int .u8 128), .lit (.int .u8 191)], .agg [.lit (.int .u8 160), .lit (.int .u8 191)], .agg [.lit (.int .u8 128), .lit (.int .u8 159)], .agg [.lit (.int .u8 144), .lit (.int .u8 191)], .agg [.lit (.int .u8 128), .lit (.int .u8 143)], .agg [.lit (.int .u8 0), .lit (.int .u8 0)], .agg [.lit (.int .u8 0), .lit (.int .u8 0)], .agg [.lit (.int .u8 0), .lit (.int .u8 0)], .agg [.lit (.int .u8 0), .lit (.int .u8 0)], .agg [.lit (.int .u8 0), .lit (.int .u8 0)], .agg [.lit (.int .u8 0), .lit (.int .u8 0)], .agg [.lit (.int .u8 0), .lit (.int .u8 0)], .agg [.lit (.int .u8 0), .lit (.int .u8 0)], .agg [.lit (.int .u8 0), .lit (.int .u8 0)], .agg [.lit (.int .u8 0), .lit (.int .u8 0)], .agg [.lit (.int .u8 0), .lit (.int .u8 0)]]
/-- One of Go's own tables, pinned by name: the form's constant. -/
def laid_unicode_utf8_first : DataW Unit := Go.Pinned.utf8First

/-- 'laws.FnExactValidStatute': WHATEVER THE INPUT: true; the input reads as it did. -/
def fnExactValidStatuteSpec : ChangeSpec := { name := "fnExactValidStatute", fn := fun _ => fun
  | [d] => { results := [.lit (.bool true)], args := [d] }
  | _ => none }
def fnExactValidStatuteRow : OpenClaim := { program := "ytkpnkaihehneiaadoor", sum := "5b8e545eb542ead62634e88a9622eb8d39510fa0f4f41a9ea192c2d79219470b", func := "loop.example/g01095/laws.FnExactValidStatute", spec := "fnExactValidStatute", inPlace := ["internal/bytealg.IndexByteString", "internal/bytealg.IndexString"], named := ["unicode/utf8.first", "unicode/utf8.acceptRanges", "internal/bytealg.MaxLen"], apart := false, laid := [("unicode/utf8.acceptRanges", laid_unicode_utf8_acceptRanges), ("unicode/utf8.first", laid_unicode_utf8_first)] }
def FnExactValidStatuteSaid : Prop := fnExactValidStatuteRow.holds Tryd.pinned (OpenSpec.ofChange fnExactValidStatuteSpec)

/-- ITS FALSE NEIGHBOUR: 'it returns false'. Refute it at one input. -/
def fnExactValidStatuteWrong : ChangeSpec := { name := "fnExactValidStatute", fn := fun _ => fun
  | [d] => { results := [.lit (.bool false)], args := [d] }
  | _ => none }
def FnExactValidStatuteWrongFalsely : Prop := fnExactValidStatuteRow.holds Tryd.pinned (OpenSpec.ofChange fnExactValidStatuteWrong)

/-- 'laws.FnExactValidPatch': WHATEVER THE INPUT: true; the input reads as it did. -/
def fnExactValidPatchSpec : ChangeSpec := { name := "fnExactValidPatch", fn := fun _ => fun
  | [d] => { results := [.lit (.bool true)], args := [d] }
  | _ => none }
def fnExactValidPatchRow : OpenClaim := { program := "ytkpnkaihehneiaadoor", sum := "5b8e545eb542ead62634e88a9622eb8d39510fa0f4f41a9ea192c2d79219470b", func := "loop.example/g01095/laws.FnExactValidPatch", spec := "fnExactValidPatch", inPlace := ["internal/bytealg.IndexByteString", "internal/bytealg.IndexString"], named := ["unicode/utf8.first", "unicode/utf8.acceptRanges", "internal/bytealg.MaxLen"], apart := false, laid := [("unicode/utf8.acceptRanges", laid_unicode_utf8_acceptRanges), ("unicode/utf8.first", laid_unicode_utf8_first)] }
def FnExactValidPatchSaid : Prop := fnExactValidPatchRow.holds Tryd.pinned (OpenSpec.ofChange fnExactValidPatchSpec)

/-- ITS FALSE NEIGHBOUR: 'it returns false'. Refute it at one input. -/
def fnExactValidPatchWrong : ChangeSpec := { name := "fnExactValidPatch", fn := fun _ => fun
  | [d] => { results := [.lit (.bool false)], args := [d] }
  | _ => none }
def FnExactValidPatchWrongFalsely : Prop := fnExactValidPatchRow.holds Tryd.pinned (OpenSpec.ofChange fnExactValidPatchWrong)

/-- 'laws.FnExactInversePatch': WHATEVER THE INPUT: true; the input reads as it did. -/
def fnExactInversePatchSpec : ChangeSpec := { name := "fnExactInversePatch", fn := fun _ => fun
  | [d] => { results := [.lit (.bool true)], args := [d] }
  | _ => none }
def fnExactInversePatchRow : OpenClaim := { program := "ytkpnkaihehneiaadoor", sum := "5b8e545eb542ead62634e88a9622eb8d39510fa0f4f41a9ea192c2d79219470b", func := "loop.example/g01095/laws.FnExactInversePatch", spec := "fnExactInversePatch", inPlace := ["internal/bytealg.IndexByteString", "internal/bytealg.IndexString"], named := ["unicode/utf8.first", "unicode/utf8.acceptRanges", "internal/bytealg.MaxLen"], apart := false, laid := [("unicode/utf8.acceptRanges", laid_unicode_utf8_acceptRanges), ("unicode/utf8.first", laid_unicode_utf8_first)] }
def FnExactInversePatchSaid : Prop := fnExactInversePatchRow.holds Tryd.pinned (OpenSpec.ofChange fnExactInversePatchSpec)

/-- ITS FALSE NEIGHBOUR: 'it returns false'. Refute it at one input. -/
def fnExactInversePatchWrong : ChangeSpec := { name := "fnExactInversePatch", fn := fun _ => fun
  | [d] => { results := [.lit (.bool false)], args := [d] }
  | _ => none }
def FnExactInversePatchWrongFalsely : Prop := fnExactInversePatchRow.holds Tryd.pinned (OpenSpec.ofChange fnExactInversePatchWrong)

/-- 'laws.FnExactConflictsOf': WHATEVER THE INPUT: true; the input reads as it did. -/
def fnExactConflictsOfSpec : ChangeSpec := { name := "fnExactConflictsOf", fn := fun _ => fun
  | [d1, d2] => { results := [.lit (.bool true)], args := [d1, d2] }
  | _ => none }
def fnExactConflictsOfRow : OpenClaim := { program := "ytkpnkaihehneiaadoor", sum := "5b8e545eb542ead62634e88a9622eb8d39510fa0f4f41a9ea192c2d79219470b", func := "loop.example/g01095/laws.FnExactConflictsOf", spec := "fnExactConflictsOf", inPlace := ["internal/bytealg.IndexByteString", "internal/bytealg.IndexString"], unfollowed := true, recurses := true, named := ["unicode/utf8.first", "unicode/utf8.acceptRanges", "internal/bytealg.MaxLen"], apart := false, laid := [("unicode/utf8.acceptRanges", laid_unicode_utf8_acceptRanges), ("unicode/utf8.first", laid_unicode_utf8_first)] }
def FnExactConflictsOfSaid : Prop := fnExactConflictsOfRow.holds Tryd.pinned (OpenSpec.ofChange fnExactConflictsOfSpec)

/-- ITS FALSE NEIGHBOUR: 'it returns false'. Refute it at one input. -/
def fnExactConflictsOfWrong : ChangeSpec := { name := "fnExactConflictsOf", fn := fun _ => fun
  | [d1, d2] => { results := [.lit (.bool false)], args := [d1, d2] }
  | _ => none }
def FnExactConflictsOfWrongFalsely : Prop := fnExactConflictsOfRow.holds Tryd.pinned (OpenSpec.ofChange fnExactConflictsOfWrong)

/-- 'laws.FnExactRebasePatch': WHATEVER THE INPUT: true; the input reads as it did. -/
def fnExactRebasePatchSpec : ChangeSpec := { name := "fnExactRebasePatch", fn := fun _ => fun
  | [d1, d2] => { results := [.lit (.bool true)], args := [d1, d2] }
  | _ => none }
def fnExactRebasePatchRow : OpenClaim := { program := "ytkpnkaihehneiaadoor", sum := "5b8e545eb542ead62634e88a9622eb8d39510fa0f4f41a9ea192c2d79219470b", func := "loop.example/g01095/laws.FnExactRebasePatch", spec := "fnExactRebasePatch", inPlace := ["internal/bytealg.IndexByteString", "internal/bytealg.IndexString"], unfollowed := true, recurses := true, named := ["unicode/utf8.first", "unicode/utf8.acceptRanges", "internal/bytealg.MaxLen"], apart := false, laid := [("unicode/utf8.acceptRanges", laid_unicode_utf8_acceptRanges), ("unicode/utf8.first", laid_unicode_utf8_first)] }
def FnExactRebasePatchSaid : Prop := fnExactRebasePatchRow.holds Tryd.pinned (OpenSpec.ofChange fnExactRebasePatchSpec)

/-- ITS FALSE NEIGHBOUR: 'it returns false'. Refute it at one input. -/
def fnExactRebasePatchWrong : ChangeSpec := { name := "fnExactRebasePatch", fn := fun _ => fun
  | [d1, d2] => { results := [.lit (.bool false)], args := [d1, d2] }
  | _ => none }
def FnExactRebasePatchWrongFalsely : Prop := fnExactRebasePatchRow.holds Tryd.pinned (OpenSpec.ofChange fnExactRebasePatchWrong)

/-- 'laws.FnExactValidActs': WHATEVER THE INPUT: true; the input reads as it did. -/
def fnExactValidActsSpec : ChangeSpec := { name := "fnExactValidActs", fn := fun _ => fun
  | [d] => { results := [.lit (.bool true)], args := [d] }
  | _ => none }
def fnExactValidActsRow : OpenClaim := { program := "ytkpnkaihehneiaadoor", sum := "5b8e545eb542ead62634e88a9622eb8d39510fa0f4f41a9ea192c2d79219470b", func := "loop.example/g01095/laws.FnExactValidActs", spec := "fnExactValidActs", inPlace := ["internal/bytealg.IndexByteString", "internal/bytealg.IndexString"], unfollowed := true, recurses := true, named := ["unicode/utf8.first", "unicode/utf8.acceptRanges", "internal/bytealg.MaxLen"], apart := false, laid := [("unicode/utf8.acceptRanges", laid_unicode_utf8_acceptRanges), ("unicode/utf8.first", laid_unicode_utf8_first)] }
def FnExactValidActsSaid : Prop := fnExactValidActsRow.holds Tryd.pinned (OpenSpec.ofChange fnExactValidActsSpec)

/-- ITS FALSE NEIGHBOUR: 'it returns false'. Refute it at one input. -/
def fnExactValidActsWrong : ChangeSpec := { name := "fnExactValidActs", fn := fun _ => fun
  | [d] => { results := [.lit (.bool false)], args := [d] }
  | _ => none }
def FnExactValidActsWrongFalsely : Prop := fnExactValidActsRow.holds Tryd.pinned (OpenSpec.ofChange fnExactValidActsWrong)

/-- 'laws.FnExactActsInForce': WHATEVER THE INPUT: true; the input reads as it did. -/
def fnExactActsInForceSpec : ChangeSpec := { name := "fnExactActsInForce", fn := fun _ => fun
  | [d1, d2] => { results := [.lit (.bool true)], args := [d1, d2] }
  | _ => none }
def fnExactActsInForceRow : OpenClaim := { program := "ytkpnkaihehneiaadoor", sum := "5b8e545eb542ead62634e88a9622eb8d39510fa0f4f41a9ea192c2d79219470b", func := "loop.example/g01095/laws.FnExactActsInForce", spec := "fnExactActsInForce", inPlace := ["internal/bytealg.IndexByteString", "internal/bytealg.IndexString"], unfollowed := true, recurses := true, named := ["unicode/utf8.first", "unicode/utf8.acceptRanges", "internal/bytealg.MaxLen"], apart := false, laid := [("unicode/utf8.acceptRanges", laid_unicode_utf8_acceptRanges), ("unicode/utf8.first", laid_unicode_utf8_first)] }
def FnExactActsInForceSaid : Prop := fnExactActsInForceRow.holds Tryd.pinned (OpenSpec.ofChange fnExactActsInForceSpec)

/-- ITS FALSE NEIGHBOUR: 'it returns false'. Refute it at one input. -/
def fnExactActsInForceWrong : ChangeSpec := { name := "fnExactActsInForce", fn := fun _ => fun
  | [d1, d2] => { results := [.lit (.bool false)], args := [d1, d2] }
  | _ => none }
def FnExactActsInForceWrongFalsely : Prop := fnExactActsInForceRow.holds Tryd.pinned (OpenSpec.ofChange fnExactActsInForceWrong)

/-- 'laws.FnExactApplyPatch': WHATEVER THE INPUT: true; the input reads as it did. -/
def fnExactApplyPatchSpec : ChangeSpec := { name := "fnExactApplyPatch", fn := fun _ => fun
  | [d1, d2] => { results := [.lit (.bool true)], args := [d1, d2] }
  | _ => none }
def fnExactApplyPatchRow : OpenClaim := { program := "ytkpnkaihehneiaadoor", sum := "5b8e545eb542ead62634e88a9622eb8d39510fa0f4f41a9ea192c2d79219470b", func := "loop.example/g01095/laws.FnExactApplyPatch", spec := "fnExactApplyPatch", inPlace := ["internal/bytealg.IndexByteString", "internal/bytealg.IndexString"], unfollowed := true, recurses := true, named := ["unicode/utf8.first", "unicode/utf8.acceptRanges", "internal/bytealg.MaxLen"], apart := false, laid := [("unicode/utf8.acceptRanges", laid_unicode_utf8_acceptRanges), ("unicode/utf8.first", laid_unicode_utf8_first)] }
def FnExactApplyPatchSaid : Prop := fnExactApplyPatchRow.holds Tryd.pinned (OpenSpec.ofChange fnExactApplyPatchSpec)

/-- ITS FALSE NEIGHBOUR: 'it returns false'. Refute it at one input. -/
def fnExactApplyPatchWrong : ChangeSpec := { name := "fnExactApplyPatch", fn := fun _ => fun
  | [d1, d2] => { results := [.lit (.bool false)], args := [d1, d2] }
  | _ => none }
def FnExactApplyPatchWrongFalsely : Prop := fnExactApplyPatchRow.holds Tryd.pinned (OpenSpec.ofChange fnExactApplyPatchWrong)

/- THE SECOND FORM. 'bulk': how many values and letters a reading holds, each counted each time it is reached (what is shared counts as often as it is met; a slice's spare places count too). A statement '..UptoSaid' is the law's where the arguments, and the package variables that the reading takes, are together of bulk at most 1048576: NARROWER than '..Said'. Prove '..Said' where nothing that the law and all that it calls make is longer than what came in: it says more and counts as full. Else prove '..UptoSaid'. A law counts once. -/
mutual
def uptoBulk {H : Type} : DataW H → Nat
  | .lit (.string bytes) => bytes.length + 1
  | .lit _ => 1
  | .nil => 1
  | .ptr d => uptoBulk d + 1
  | .slice elems spare => uptoBulkAll elems + uptoBulkAll spare + 1
  | .agg parts => uptoBulkAll parts + 1
  | .iface _ d => uptoBulk d + 1
  | .map entries => uptoBulkEntries entries + 1
  | .held _ => 1
def uptoBulkAll {H : Type} : List (DataW H) → Nat
  | [] => 0
  | d :: r => uptoBulk d + uptoBulkAll r
def uptoBulkEntries {H : Type} : List (Lit × DataW H) → Nat
  | [] => 0
  | x :: r => uptoBulkEntry x + uptoBulkEntries r
def uptoBulkEntry {H : Type} : Lit × DataW H → Nat
  | (.string bytes, d) => bytes.length + uptoBulk d + 1
  | (_, d) => uptoBulk d + 1
 end
def uptoSmall : (H : Type) → List (DataW H) → Bool := fun _ ds => decide (uptoBulkAll ds ≤ 1048576)
def OpenSpec.upto (s : _root_.Go.ChangeSpec) : _root_.Go.OpenSpec := { _root_.Go.OpenSpec.ofChange s with cond := some uptoSmall }

/-- 'laws.FnExactValidStatute', WHERE WHAT IT READS IS OF BULK AT MOST 1048576: true; the input reads as it did. -/
def fnExactValidStatuteUptoRow : OpenClaim := { program := "ytkpnkaihehneiaadoor", sum := "5b8e545eb542ead62634e88a9622eb8d39510fa0f4f41a9ea192c2d79219470b", func := "loop.example/g01095/laws.FnExactValidStatute", spec := "fnExactValidStatute", inPlace := ["internal/bytealg.IndexByteString", "internal/bytealg.IndexString"], named := ["unicode/utf8.first", "unicode/utf8.acceptRanges", "internal/bytealg.MaxLen"], apart := false, laid := [("unicode/utf8.acceptRanges", laid_unicode_utf8_acceptRanges), ("unicode/utf8.first", laid_unicode_utf8_first)], narrowed := true }
def FnExactValidStatuteUptoSaid : Prop := fnExactValidStatuteUptoRow.holds Tryd.pinned (OpenSpec.upto fnExactValidStatuteSpec)

/-- 'laws.FnExactValidPatch', WHERE WHAT IT READS IS OF BULK AT MOST 1048576: true; the input reads as it did. -/
def fnExactValidPatchUptoRow : OpenClaim := { program := "ytkpnkaihehneiaadoor", sum := "5b8e545eb542ead62634e88a9622eb8d39510fa0f4f41a9ea192c2d79219470b", func := "loop.example/g01095/laws.FnExactValidPatch", spec := "fnExactValidPatch", inPlace := ["internal/bytealg.IndexByteString", "internal/bytealg.IndexString"], named := ["unicode/utf8.first", "unicode/utf8.acceptRanges", "internal/bytealg.MaxLen"], apart := false, laid := [("unicode/utf8.acceptRanges", laid_unicode_utf8_acceptRanges), ("unicode/utf8.first", laid_unicode_utf8_first)], narrowed := true }
def FnExactValidPatchUptoSaid : Prop := fnExactValidPatchUptoRow.holds Tryd.pinned (OpenSpec.upto fnExactValidPatchSpec)

/-- 'laws.FnExactInversePatch', WHERE WHAT IT READS IS OF BULK AT MOST 1048576: true; the input reads as it did. -/
def fnExactInversePatchUptoRow : OpenClaim := { program := "ytkpnkaihehneiaadoor", sum := "5b8e545eb542ead62634e88a9622eb8d39510fa0f4f41a9ea192c2d79219470b", func := "loop.example/g01095/laws.FnExactInversePatch", spec := "fnExactInversePatch", inPlace := ["internal/bytealg.IndexByteString", "internal/bytealg.IndexString"], named := ["unicode/utf8.first", "unicode/utf8.acceptRanges", "internal/bytealg.MaxLen"], apart := false, laid := [("unicode/utf8.acceptRanges", laid_unicode_utf8_acceptRanges), ("unicode/utf8.first", laid_unicode_utf8_first)], narrowed := true }
def FnExactInversePatchUptoSaid : Prop := fnExactInversePatchUptoRow.holds Tryd.pinned (OpenSpec.upto fnExactInversePatchSpec)

/-- 'laws.FnExactConflictsOf', WHERE WHAT IT READS IS OF BULK AT MOST 1048576: true; the input reads as it did. -/
def fnExactConflictsOfUptoRow : OpenClaim := { program := "ytkpnkaihehneiaadoor", sum := "5b8e545eb542ead62634e88a9622eb8d39510fa0f4f41a9ea192c2d79219470b", func := "loop.example/g01095/laws.FnExactConflictsOf", spec := "fnExactConflictsOf", inPlace := ["internal/bytealg.IndexByteString", "internal/bytealg.IndexString"], unfollowed := true, recurses := true, named := ["unicode/utf8.first", "unicode/utf8.acceptRanges", "internal/bytealg.MaxLen"], apart := false, laid := [("unicode/utf8.acceptRanges", laid_unicode_utf8_acceptRanges), ("unicode/utf8.first", laid_unicode_utf8_first)], narrowed := true }
def FnExactConflictsOfUptoSaid : Prop := fnExactConflictsOfUptoRow.holds Tryd.pinned (OpenSpec.upto fnExactConflictsOfSpec)

/-- 'laws.FnExactRebasePatch', WHERE WHAT IT READS IS OF BULK AT MOST 1048576: true; the input reads as it did. -/
def fnExactRebasePatchUptoRow : OpenClaim := { program := "ytkpnkaihehneiaadoor", sum := "5b8e545eb542ead62634e88a9622eb8d39510fa0f4f41a9ea192c2d79219470b", func := "loop.example/g01095/laws.FnExactRebasePatch", spec := "fnExactRebasePatch", inPlace := ["internal/bytealg.IndexByteString", "internal/bytealg.IndexString"], unfollowed := true, recurses := true, named := ["unicode/utf8.first", "unicode/utf8.acceptRanges", "internal/bytealg.MaxLen"], apart := false, laid := [("unicode/utf8.acceptRanges", laid_unicode_utf8_acceptRanges), ("unicode/utf8.first", laid_unicode_utf8_first)], narrowed := true }
def FnExactRebasePatchUptoSaid : Prop := fnExactRebasePatchUptoRow.holds Tryd.pinned (OpenSpec.upto fnExactRebasePatchSpec)

/-- 'laws.FnExactValidActs', WHERE WHAT IT READS IS OF BULK AT MOST 1048576: true; the input reads as it did. -/
def fnExactValidActsUptoRow : OpenClaim := { program := "ytkpnkaihehneiaadoor", sum := "5b8e545eb542ead62634e88a9622eb8d39510fa0f4f41a9ea192c2d79219470b", func := "loop.example/g01095/laws.FnExactValidActs", spec := "fnExactValidActs", inPlace := ["internal/bytealg.IndexByteString", "internal/bytealg.IndexString"], unfollowed := true, recurses := true, named := ["unicode/utf8.first", "unicode/utf8.acceptRanges", "internal/bytealg.MaxLen"], apart := false, laid := [("unicode/utf8.acceptRanges", laid_unicode_utf8_acceptRanges), ("unicode/utf8.first", laid_unicode_utf8_first)], narrowed := true }
def FnExactValidActsUptoSaid : Prop := fnExactValidActsUptoRow.holds Tryd.pinned (OpenSpec.upto fnExactValidActsSpec)

/-- 'laws.FnExactActsInForce', WHERE WHAT IT READS IS OF BULK AT MOST 1048576: true; the input reads as it did. -/
def fnExactActsInForceUptoRow : OpenClaim := { program := "ytkpnkaihehneiaadoor", sum := "5b8e545eb542ead62634e88a9622eb8d39510fa0f4f41a9ea192c2d79219470b", func := "loop.example/g01095/laws.FnExactActsInForce", spec := "fnExactActsInForce", inPlace := ["internal/bytealg.IndexByteString", "internal/bytealg.IndexString"], unfollowed := true, recurses := true, named := ["unicode/utf8.first", "unicode/utf8.acceptRanges", "internal/bytealg.MaxLen"], apart := false, laid := [("unicode/utf8.acceptRanges", laid_unicode_utf8_acceptRanges), ("unicode/utf8.first", laid_unicode_utf8_first)], narrowed := true }
def FnExactActsInForceUptoSaid : Prop := fnExactActsInForceUptoRow.holds Tryd.pinned (OpenSpec.upto fnExactActsInForceSpec)

/-- 'laws.FnExactApplyPatch', WHERE WHAT IT READS IS OF BULK AT MOST 1048576: true; the input reads as it did. -/
def fnExactApplyPatchUptoRow : OpenClaim := { program := "ytkpnkaihehneiaadoor", sum := "5b8e545eb542ead62634e88a9622eb8d39510fa0f4f41a9ea192c2d79219470b", func := "loop.example/g01095/laws.FnExactApplyPatch", spec := "fnExactApplyPatch", inPlace := ["internal/bytealg.IndexByteString", "internal/bytealg.IndexString"], unfollowed := true, recurses := true, named := ["unicode/utf8.first", "unicode/utf8.acceptRanges", "internal/bytealg.MaxLen"], apart := false, laid := [("unicode/utf8.acceptRanges", laid_unicode_utf8_acceptRanges), ("unicode/utf8.first", laid_unicode_utf8_first)], narrowed := true }
def FnExactApplyPatchUptoSaid : Prop := fnExactApplyPatchUptoRow.holds Tryd.pinned (OpenSpec.upto fnExactApplyPatchSpec)

end Rows
end Go.Proofs.YtkpnkaihehneiaaDoor

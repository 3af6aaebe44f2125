/-
  NARROWER THAN 'FOR EVERY INPUT', by the rows' own cells (each row's printed sentence says how): FnExactSampleFor: laid · FnExactRunAudit: ifaces, laid · FnMargin: ifaces, laid · FnRisk: laid · FnAudited: ifaces, laid.
  DERIVED. THE GIVEN ROWS OF THIS SEAT. 5 by the template 'for every input the law returns true; each argument reads behind the call as it read before'; 0 by the template 'total and deterministic' (their statements: YtjfkkmfbgmejbabDoorTotals.lean).
  GIVEN WITH THE SEED: the statements are not yours to turn. If you find one false, say at which input.
  Laid BY PROGRAM, IN A SANDBOX (cutbox-rows.mjs): the forced cells as the released guide's own fill.sh prints them over the translation ccf33794435378ca… (all of the seat's roots in one cut). By AI agents, Wed Nov 11 2026. No macro, syntax, notation, axiom, sorry.
-/
import Derived.Test.YtjfkkmfbgmejbabDoorChecked
import GoSem.Claim
import GoSem.ClaimJoined
import GoSem.ClaimMapViews
import Derived.JoinedTies
import Derived.KernelRfl
namespace Go.Proofs.YtjfkkmfbgmejbabDoor
/- THE CELL 'sum', in the pinned program and in every row, IS THE sha256 OF THE DUMP (.gsa) THAT YtjfkkmfbgmejbabDoorProg.lean LOADS. Nothing in Lean hashes anything: it is a label: what it is worth is what the hold of that sum in a sandbox is worth. -/
noncomputable def Tryd.pinned : Pinned := { name := "ytjfkkmfbgmejbabdoor", sum := "ccf33794435378ca868ee4432129cff105e36efca108318685b8e4b221ee498b", checked := Tryd.checked }
namespace Rows
def none {H : Type} : Left H := { results := [], args := [] }

/- WHAT THE LISTED PACKAGE-LEVEL VARIABLES READ AS WHEN THE CALL BEGINS. Each datum BY PROGRAM (the guide's laid-datum.mjs) off the statement by which the dump's own 'gosem.cut.vars' lays the variable. In a bare row this is a premise. The card (YtjfkkmfbgmejbabDoorCards.lean) ties it to the program's text. -/
def laid_errors_errorType {H : Type} : DataW H := .iface "internal/reflectlite.rtype" (.agg [.ptr (.lit (.string [101, 114, 114, 111, 114]))])
def laid_loop_example_g01095_impl_errNoMargin {H : Type} : DataW H := .iface "*errors.errorString" (.ptr (.agg [.lit (.string [110, 111, 32, 99, 104, 97, 110, 103, 101, 32, 111, 102, 32, 118, 111, 116, 101, 115, 32, 108, 101, 97, 100, 115, 32, 116, 111, 32, 97, 110, 111, 116, 104, 101, 114, 32, 114, 101, 115, 117, 108, 116])]))

/-- 'laws.FnExactSampleFor': WHATEVER THE INPUT: true; the input reads as it did. -/
def fnExactSampleForSpec : ChangeSpec := { name := "fnExactSampleFor", fn := fun _ => fun
  | [d1, d2, d3] => { results := [.lit (.bool true)], args := [d1, d2, d3] }
  | _ => none }
def fnExactSampleForRow : OpenClaim := { program := "ytjfkkmfbgmejbabdoor", sum := "ccf33794435378ca868ee4432129cff105e36efca108318685b8e4b221ee498b", func := "loop.example/g01095/laws.FnExactSampleFor", spec := "fnExactSampleFor", inPlace := ["internal/reflectlite.ValueOf", "(internal/reflectlite.Value).Type", "(internal/reflectlite.Value).IsNil", "internal/reflectlite.TypeOf", "(internal/reflectlite.Value).Elem", "(internal/reflectlite.Value).Set"], unfollowed := true, recurses := true, named := ["errors.errorType"], apart := false, laid := [("errors.errorType", laid_errors_errorType)] }
def FnExactSampleForSaid : Prop := fnExactSampleForRow.holds Tryd.pinned (OpenSpec.ofChange fnExactSampleForSpec)

/-- ITS FALSE NEIGHBOUR: 'it returns false'. Refute it at one input. -/
def fnExactSampleForWrong : ChangeSpec := { name := "fnExactSampleFor", fn := fun _ => fun
  | [d1, d2, d3] => { results := [.lit (.bool false)], args := [d1, d2, d3] }
  | _ => none }
def FnExactSampleForWrongFalsely : Prop := fnExactSampleForRow.holds Tryd.pinned (OpenSpec.ofChange fnExactSampleForWrong)

/-- 'laws.FnExactRunAudit': WHATEVER THE INPUT: true; the input reads as it did. -/
def fnExactRunAuditSpec : ChangeSpec := { name := "fnExactRunAudit", vars := ["loop.example/g01095/impl.errNoMargin"], fn := fun _ => fun
  | [d1, d2, d3, d4, d5, g1] => { results := [.lit (.bool true)], args := [d1, d2, d3, d4, d5], vars := [g1] }
  | _ => none }
def fnExactRunAuditRow : OpenClaim := { program := "ytjfkkmfbgmejbabdoor", sum := "ccf33794435378ca868ee4432129cff105e36efca108318685b8e4b221ee498b", func := "loop.example/g01095/laws.FnExactRunAudit", spec := "fnExactRunAudit", inPlace := ["internal/reflectlite.TypeOf", "internal/reflectlite.ValueOf", "(internal/reflectlite.Value).Type", "(internal/reflectlite.Value).IsNil", "(internal/reflectlite.Value).Elem", "(internal/reflectlite.Value).Set"], unfollowed := true, recurses := true, named := ["loop.example/g01095/impl.errNoMargin", "errors.errorType"], ifaces := true, apart := false, laid := [("errors.errorType", laid_errors_errorType), ("loop.example/g01095/impl.errNoMargin", laid_loop_example_g01095_impl_errNoMargin)] }
def FnExactRunAuditSaid : Prop := fnExactRunAuditRow.holds Tryd.pinned (OpenSpec.ofChange fnExactRunAuditSpec)

/-- ITS FALSE NEIGHBOUR: 'it returns false'. Refute it at one input. -/
def fnExactRunAuditWrong : ChangeSpec := { name := "fnExactRunAudit", vars := ["loop.example/g01095/impl.errNoMargin"], fn := fun _ => fun
  | [d1, d2, d3, d4, d5, g1] => { results := [.lit (.bool false)], args := [d1, d2, d3, d4, d5], vars := [g1] }
  | _ => none }
def FnExactRunAuditWrongFalsely : Prop := fnExactRunAuditRow.holds Tryd.pinned (OpenSpec.ofChange fnExactRunAuditWrong)

/-- 'laws.FnMargin': WHATEVER THE INPUT: true; the input reads as it did. -/
def fnMarginSpec : ChangeSpec := { name := "fnMargin", vars := ["loop.example/g01095/impl.errNoMargin"], fn := fun _ => fun
  | [d1, d2, g1] => { results := [.lit (.bool true)], args := [d1, d2], vars := [g1] }
  | _ => none }
def fnMarginRow : OpenClaim := { program := "ytjfkkmfbgmejbabdoor", sum := "ccf33794435378ca868ee4432129cff105e36efca108318685b8e4b221ee498b", func := "loop.example/g01095/laws.FnMargin", spec := "fnMargin", inPlace := ["internal/reflectlite.TypeOf"], unfollowed := true, recurses := true, named := ["loop.example/g01095/impl.errNoMargin"], ifaces := true, apart := false, laid := [("loop.example/g01095/impl.errNoMargin", laid_loop_example_g01095_impl_errNoMargin)] }
def FnMarginSaid : Prop := fnMarginRow.holds Tryd.pinned (OpenSpec.ofChange fnMarginSpec)

/-- ITS FALSE NEIGHBOUR: 'it returns false'. Refute it at one input. -/
def fnMarginWrong : ChangeSpec := { name := "fnMargin", vars := ["loop.example/g01095/impl.errNoMargin"], fn := fun _ => fun
  | [d1, d2, g1] => { results := [.lit (.bool false)], args := [d1, d2], vars := [g1] }
  | _ => none }
def FnMarginWrongFalsely : Prop := fnMarginRow.holds Tryd.pinned (OpenSpec.ofChange fnMarginWrong)

/-- 'laws.FnRisk': WHATEVER THE INPUT: true; the input reads as it did. -/
def fnRiskSpec : ChangeSpec := { name := "fnRisk", fn := fun _ => fun
  | [d1, d2] => { results := [.lit (.bool true)], args := [d1, d2] }
  | _ => none }
def fnRiskRow : OpenClaim := { program := "ytjfkkmfbgmejbabdoor", sum := "ccf33794435378ca868ee4432129cff105e36efca108318685b8e4b221ee498b", func := "loop.example/g01095/laws.FnRisk", spec := "fnRisk", inPlace := ["internal/reflectlite.ValueOf", "(internal/reflectlite.Value).Type", "(internal/reflectlite.Value).IsNil", "internal/reflectlite.TypeOf", "(internal/reflectlite.Value).Elem", "(internal/reflectlite.Value).Set"], unfollowed := true, recurses := true, named := ["errors.errorType"], apart := false, laid := [("errors.errorType", laid_errors_errorType)] }
def FnRiskSaid : Prop := fnRiskRow.holds Tryd.pinned (OpenSpec.ofChange fnRiskSpec)

/-- ITS FALSE NEIGHBOUR: 'it returns false'. Refute it at one input. -/
def fnRiskWrong : ChangeSpec := { name := "fnRisk", fn := fun _ => fun
  | [d1, d2] => { results := [.lit (.bool false)], args := [d1, d2] }
  | _ => none }
def FnRiskWrongFalsely : Prop := fnRiskRow.holds Tryd.pinned (OpenSpec.ofChange fnRiskWrong)

/-- 'laws.FnAudited': WHATEVER THE INPUT: true; the input reads as it did. -/
def fnAuditedSpec : ChangeSpec := { name := "fnAudited", vars := ["loop.example/g01095/impl.errNoMargin"], fn := fun _ => fun
  | [d1, d2, g1] => { results := [.lit (.bool true)], args := [d1, d2], vars := [g1] }
  | _ => none }
def fnAuditedRow : OpenClaim := { program := "ytjfkkmfbgmejbabdoor", sum := "ccf33794435378ca868ee4432129cff105e36efca108318685b8e4b221ee498b", func := "loop.example/g01095/laws.FnAudited", spec := "fnAudited", inPlace := ["internal/reflectlite.ValueOf", "(internal/reflectlite.Value).Type", "(internal/reflectlite.Value).IsNil", "internal/reflectlite.TypeOf", "(internal/reflectlite.Value).Elem", "(internal/reflectlite.Value).Set"], unfollowed := true, recurses := true, named := ["errors.errorType", "loop.example/g01095/impl.errNoMargin"], ifaces := true, apart := false, laid := [("errors.errorType", laid_errors_errorType), ("loop.example/g01095/impl.errNoMargin", laid_loop_example_g01095_impl_errNoMargin)] }
def FnAuditedSaid : Prop := fnAuditedRow.holds Tryd.pinned (OpenSpec.ofChange fnAuditedSpec)

/-- ITS FALSE NEIGHBOUR: 'it returns false'. Refute it at one input. -/
def fnAuditedWrong : ChangeSpec := { name := "fnAudited", vars := ["loop.example/g01095/impl.errNoMargin"], fn := fun _ => fun
  | [d1, d2, g1] => { results := [.lit (.bool false)], args := [d1, d2], vars := [g1] }
  | _ => none }
def FnAuditedWrongFalsely : Prop := fnAuditedRow.holds Tryd.pinned (OpenSpec.ofChange fnAuditedWrong)

/- THE SECOND FORM. 'bulk': how many values and letters a reading holds, each counted each time it is reached (what is shared counts as often as it is met; a slice's spare places count too). A statement '..UptoSaid' is the law's where the arguments, and the package variables that the reading takes, are together of bulk at most 1048576: NARROWER than '..Said'. Prove '..Said' where nothing that the law and all that it calls make is longer than what came in: it says more and counts as full. Else prove '..UptoSaid'. A law counts once. -/
mutual
def uptoBulk {H : Type} : DataW H → Nat
  | .lit (.string bytes) => bytes.length + 1
  | .lit _ => 1
  | .nil => 1
  | .ptr d => uptoBulk d + 1
  | .slice elems spare => uptoBulkAll elems + uptoBulkAll spare + 1
  | .agg parts => uptoBulkAll parts + 1
  | .iface _ d => uptoBulk d + 1
  | .map entries => uptoBulkEntries entries + 1
  | .held _ => 1
def uptoBulkAll {H : Type} : List (DataW H) → Nat
  | [] => 0
  | d :: r => uptoBulk d + uptoBulkAll r
def uptoBulkEntries {H : Type} : List (Lit × DataW H) → Nat
  | [] => 0
  | x :: r => uptoBulkEntry x + uptoBulkEntries r
def uptoBulkEntry {H : Type} : Lit × DataW H → Nat
  | (.string bytes, d) => bytes.length + uptoBulk d + 1
  | (_, d) => uptoBulk d + 1
 end
def uptoSmall : (H : Type) → List (DataW H) → Bool := fun _ ds => decide (uptoBulkAll ds ≤ 1048576)
def OpenSpec.upto (s : _root_.Go.ChangeSpec) : _root_.Go.OpenSpec := { _root_.Go.OpenSpec.ofChange s with cond := some uptoSmall }

/-- 'laws.FnExactSampleFor', WHERE WHAT IT READS IS OF BULK AT MOST 1048576: true; the input reads as it did. -/
def fnExactSampleForUptoRow : OpenClaim := { program := "ytjfkkmfbgmejbabdoor", sum := "ccf33794435378ca868ee4432129cff105e36efca108318685b8e4b221ee498b", func := "loop.example/g01095/laws.FnExactSampleFor", spec := "fnExactSampleFor", inPlace := ["internal/reflectlite.ValueOf", "(internal/reflectlite.Value).Type", "(internal/reflectlite.Value).IsNil", "internal/reflectlite.TypeOf", "(internal/reflectlite.Value).Elem", "(internal/reflectlite.Value).Set"], unfollowed := true, recurses := true, named := ["errors.errorType"], apart := false, laid := [("errors.errorType", laid_errors_errorType)], narrowed := true }
def FnExactSampleForUptoSaid : Prop := fnExactSampleForUptoRow.holds Tryd.pinned (OpenSpec.upto fnExactSampleForSpec)

/-- 'laws.FnExactRunAudit', WHERE WHAT IT READS IS OF BULK AT MOST 1048576: true; the input reads as it did. -/
def fnExactRunAuditUptoRow : OpenClaim := { program := "ytjfkkmfbgmejbabdoor", sum := "ccf33794435378ca868ee4432129cff105e36efca108318685b8e4b221ee498b", func := "loop.example/g01095/laws.FnExactRunAudit", spec := "fnExactRunAudit", inPlace := ["internal/reflectlite.TypeOf", "internal/reflectlite.ValueOf", "(internal/reflectlite.Value).Type", "(internal/reflectlite.Value).IsNil", "(internal/reflectlite.Value).Elem", "(internal/reflectlite.Value).Set"], unfollowed := true, recurses := true, named := ["loop.example/g01095/impl.errNoMargin", "errors.errorType"], ifaces := true, apart := false, laid := [("errors.errorType", laid_errors_errorType), ("loop.example/g01095/impl.errNoMargin", laid_loop_example_g01095_impl_errNoMargin)], narrowed := true }
def FnExactRunAuditUptoSaid : Prop := fnExactRunAuditUptoRow.holds Tryd.pinned (OpenSpec.upto fnExactRunAuditSpec)

/-- 'laws.FnMargin', WHERE WHAT IT READS IS OF BULK AT MOST 1048576: true; the input reads as it did. -/
def fnMarginUptoRow : OpenClaim := { program := "ytjfkkmfbgmejbabdoor", sum := "ccf33794435378ca868ee4432129cff105e36efca108318685b8e4b221ee498b", func := "loop.example/g01095/laws.FnMargin", spec := "fnMargin", inPlace := ["internal/reflectlite.TypeOf"], unfollowed := true, recurses := true, named := ["loop.example/g01095/impl.errNoMargin"], ifaces := true, apart := false, laid := [("loop.example/g01095/impl.errNoMargin", laid_loop_example_g01095_impl_errNoMargin)], narrowed := true }
def FnMarginUptoSaid : Prop := fnMarginUptoRow.holds Tryd.pinned (OpenSpec.upto fnMarginSpec)

/-- 'laws.FnRisk', WHERE WHAT IT READS IS OF BULK AT MOST 1048576: true; the input reads as it did. -/
def fnRiskUptoRow : OpenClaim := { program := "ytjfkkmfbgmejbabdoor", sum := "ccf33794435378ca868ee4432129cff105e36efca108318685b8e4b221ee498b", func := "loop.example/g01095/laws.FnRisk", spec := "fnRisk", inPlace := ["internal/reflectlite.ValueOf", "(internal/reflectlite.Value).Type", "(internal/reflectlite.Value).IsNil", "internal/reflectlite.TypeOf", "(internal/reflectlite.Value).Elem", "(internal/reflectlite.Value).Set"], unfollowed := true, recurses := true, named := ["errors.errorType"], apart := false, laid := [("errors.errorType", laid_errors_errorType)], narrowed := true }
def FnRiskUptoSaid : Prop := fnRiskUptoRow.holds Tryd.pinned (OpenSpec.upto fnRiskSpec)

/-- 'laws.FnAudited', WHERE WHAT IT READS IS OF BULK AT MOST 1048576: true; the input reads as it did. -/
def fnAuditedUptoRow : OpenClaim := { program := "ytjfkkmfbgmejbabdoor", sum := "ccf33794435378ca868ee4432129cff105e36efca108318685b8e4b221ee498b", func := "loop.example/g01095/laws.FnAudited", spec := "fnAudited", inPlace := ["internal/reflectlite.ValueOf", "(internal/reflectlite.Value).Type", "(internal/reflectlite.Value).IsNil", "internal/reflectlite.TypeOf", "(internal/reflectlite.Value).Elem", "(internal/reflectlite.Value).Set"], unfollowed := true, recurses := true, named := ["errors.errorType", "loop.example/g01095/impl.errNoMargin"], ifaces := true, apart := false, laid := [("errors.errorType", laid_errors_errorType), ("loop.example/g01095/impl.errNoMargin", laid_loop_example_g01095_impl_errNoMargin)], narrowed := true }
def FnAuditedUptoSaid : Prop := fnAuditedUptoRow.holds Tryd.pinned (OpenSpec.upto fnAuditedSpec)

end Rows
end Go.Proofs.YtjfkkmfbgmejbabDoor

/- Patches: whether a list of edits is one: the specification's look. -/
import Derived.Test.YteioilnelmnndaaDoorEd4
namespace Go.Proofs.YteioilnelmnndaaDoor
open Go.ChangeShapes Go.WideShapes Go.ChangeAt Go.RowKit Go.Deep
set_option linter.unusedSimpArgs false
set_option linter.unusedVariables false
def pat1 (L : List Ed) (k : Nat) : Prop := (1 ≤ (L.getD k e0).2.1 ∧ (L.getD k e0).2.1 ≤ 99) ∧ edF (L.getD k e0) ∧ (0 < k → (L.getD (k - 1) e0).2.1 < (L.getD k e0).2.1)
def patF (L : List Ed) : Prop := L.length ≤ 16 ∧ ∀ k, k < L.length → pat1 L k
noncomputable def patB (L : List Ed) : Bool := @decide (patF L) (Classical.propDecidable _)
theorem patB_iff {L : List Ed} : patB L = true ↔ patF L := by simp [patB]
theorem patB_yes {L : List Ed} (h : patF L) : patB L = true := by simp [patB, h]
theorem patB_no {L : List Ed} (h : ¬ patF L) : patB L = false := by simp [patB, h]
end Go.Proofs.YteioilnelmnndaaDoor

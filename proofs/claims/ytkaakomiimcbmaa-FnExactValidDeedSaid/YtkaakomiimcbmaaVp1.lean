/- The specification's look at a path, by its contract. -/
import Derived.Test.YtkaakomiimcbmaaVo9
namespace Go.Proofs.Ytkaakomiimcbmaa
open Go.ChangeShapes Go.WideShapes Go.ChangeAt Go.RowKit Go.Deep
set_option linter.unusedSimpArgs false
set_option linter.unusedVariables false
def vAt (L : List Vc) (y : Int) : Vc := L.getD y.toNat (false, [])
def stOk (L : List Vc) (p : List Int) (m : Nat) : Prop :=
  (0 ≤ p.getD m 0 ∧ p.getD m 0 ≤ (L.length : Int) - 1) ∧ ¬ p.getD m 0 ∈ p.take m ∧ (vAt L (p.getD m 0)).1 = ((m : Int) == (p.length : Int) - 1) ∧ (0 < m → p.getD m 0 ∈ (vAt L (p.getD (m - 1) 0)).2)
def pathOk (L : List Vc) (p : List Int) : Prop := 1 ≤ p.length ∧ p.length ≤ L.length ∧ ∀ m, m < p.length → stOk L p m
noncomputable def pathB (L : List Vc) (p : List Int) : Bool := @decide (pathOk L p) (Classical.propDecidable _)
theorem pathB_yes {L : List Vc} {p : List Int} (h : pathOk L p) : pathB L p = true := by simp [pathB, h]
theorem pathB_no {L : List Vc} {p : List Int} (h : ¬ pathOk L p) : pathB L p = false := by simp [pathB, h]
end Go.Proofs.Ytkaakomiimcbmaa

/- Edits: their size; two lists of them compared. -/
import Derived.Test.YteioilnelmnndaaDoorEd1
namespace Go.Proofs.YteioilnelmnndaaDoor
open Go.ChangeShapes Go.WideShapes Go.ChangeAt Go.RowKit Go.Deep
set_option linter.unusedSimpArgs false
set_option linter.unusedVariables false
def RoomE (L : List Ed) : Prop := L.length ≤ 9223372036854775807 ∧ ∀ k, k < L.length → (L.getD k e0).2.2.1.size ≤ 9223372036854775807 ∧ (L.getD k e0).2.2.2.size ≤ 9223372036854775807
def FitsE (L : List Ed) : Prop := L.length ≤ 1048576 ∧ ∀ k, k < L.length → (L.getD k e0).2.2.1.size ≤ 1048576 ∧ (L.getD k e0).2.2.2.size ≤ 1048576
def szE2 (m n : Nat) (left : Int) : Int := if left - m < 0 then -1 else if left - m - n < 0 then -1 else left - m - n
end Go.Proofs.YteioilnelmnndaaDoor

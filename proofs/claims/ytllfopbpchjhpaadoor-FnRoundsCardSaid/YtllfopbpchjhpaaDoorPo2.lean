/- Quotas and pools: their size, copied, compared. -/
import Derived.Test.YtllfopbpchjhpaaDoorPo1
import Derived.Test.YtllfopbpchjhpaaDoorVo5
namespace Go.Proofs.YtllfopbpchjhpaaDoor
open Go.ChangeShapes Go.WideShapes Go.ChangeAt Go.RowKit Go.Deep
set_option linter.unusedSimpArgs false
set_option linter.unusedVariables false
/-- What the law's size test lets through. -/
def FitsQ (L : List Qt) : Prop := L.length ≤ 1048576 ∧ ∀ k, k < L.length → (L.getD k q0).1.length ≤ 1048576
def RoomQ (L : List Qt) : Prop := L.length ≤ 9223372036854775807 ∧ ∀ k, k < L.length → (L.getD k q0).1.length ≤ 9223372036854775807
end Go.Proofs.YtllfopbpchjhpaaDoor

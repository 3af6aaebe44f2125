/- The specification's look at a frame: l08Is, ValidFrame. -/
import Derived.Test.YtllfopbpchjhpaaDoorGr1
import Derived.Test.YtllfopbpchjhpaaDoorFm2
import Derived.Test.YtllfopbpchjhpaaDoorPo3
namespace Go.Proofs.YtllfopbpchjhpaaDoor
open Go.ChangeShapes Go.WideShapes Go.ChangeAt Go.RowKit Go.Deep Go.Maps
set_option linter.unusedSimpArgs false
set_option linter.unusedVariables false
/-- Attacks 0 to k - 1 are as they must be. -/
def okUp (n : Int) (L : List (List Int)) (k : Nat) : Prop := ∀ i, i < k → atkOk n (L.getD i []) ∧ ∀ j, j + 1 = i → keyA (L.getD j []) < keyA (L.getD i [])
end Go.Proofs.YtllfopbpchjhpaaDoor

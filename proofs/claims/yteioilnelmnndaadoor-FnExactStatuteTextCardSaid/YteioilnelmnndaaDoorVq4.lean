/- The law on RanksOf, walked. -/
import Derived.Test.YteioilnelmnndaaDoorVq3
namespace Go.Proofs.YteioilnelmnndaaDoor
open Go.ChangeShapes Go.WideShapes Go.ChangeAt Go.RowKit Go.Deep
set_option linter.unusedSimpArgs false
set_option linter.unusedVariables false
end Go.Proofs.YteioilnelmnndaaDoor

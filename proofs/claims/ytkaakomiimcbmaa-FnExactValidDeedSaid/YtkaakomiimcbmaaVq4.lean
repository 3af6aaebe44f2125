/- The law on RanksOf, walked. -/
import Derived.Test.YtkaakomiimcbmaaVq3
namespace Go.Proofs.Ytkaakomiimcbmaa
open Go.ChangeShapes Go.WideShapes Go.ChangeAt Go.RowKit Go.Deep
set_option linter.unusedSimpArgs false
set_option linter.unusedVariables false
end Go.Proofs.Ytkaakomiimcbmaa

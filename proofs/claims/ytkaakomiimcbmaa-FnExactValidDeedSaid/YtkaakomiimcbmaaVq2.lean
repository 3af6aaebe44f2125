/- Marks written into a list of voices of the call's own. -/
import Derived.Test.YtkaakomiimcbmaaVq1
namespace Go.Proofs.Ytkaakomiimcbmaa
open Go.ChangeShapes Go.WideShapes Go.ChangeAt Go.RowKit Go.Deep
set_option linter.unusedSimpArgs false
set_option linter.unusedVariables false
end Go.Proofs.Ytkaakomiimcbmaa

/- The law on RanksOf, walked. -/
import Derived.Test.YtjfkkmfbgmejbabVq3
namespace Go.Proofs.Ytjfkkmfbgmejbab
open Go.ChangeShapes Go.WideShapes Go.ChangeAt Go.RowKit Go.Deep
set_option linter.unusedSimpArgs false
set_option linter.unusedVariables false
end Go.Proofs.Ytjfkkmfbgmejbab

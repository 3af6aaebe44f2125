/- IsPath on both sides by its contract; the law on it. -/
import Derived.Test.YtjfkkmfbgmejbabVp2
namespace Go.Proofs.Ytjfkkmfbgmejbab
open Go.ChangeShapes Go.WideShapes Go.ChangeAt Go.RowKit Go.Deep
set_option linter.unusedSimpArgs false
set_option linter.unusedVariables false
end Go.Proofs.Ytjfkkmfbgmejbab

/- Lists of seals, exponents and weights: both sides' looks. -/
import Derived.Test.YtjfkkmfbgmejbabSl3
import Derived.Test.YtjfkkmfbgmejbabCt1
namespace Go.Proofs.Ytjfkkmfbgmejbab
open Go.ChangeShapes Go.WideShapes Go.ChangeAt Go.RowKit Go.Deep
set_option linter.unusedSimpArgs false
set_option linter.unusedVariables false
end Go.Proofs.Ytjfkkmfbgmejbab

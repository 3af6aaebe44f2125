/- IsPath on both sides by its contract; the law on it. -/
import Derived.Test.YtllfopbpchjhpaaDoorVp2
namespace Go.Proofs.YtllfopbpchjhpaaDoor
open Go.ChangeShapes Go.WideShapes Go.ChangeAt Go.RowKit Go.Deep
set_option linter.unusedSimpArgs false
set_option linter.unusedVariables false
end Go.Proofs.YtllfopbpchjhpaaDoor

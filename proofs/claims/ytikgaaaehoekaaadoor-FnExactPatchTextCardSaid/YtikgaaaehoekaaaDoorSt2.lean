/- Statutes: the edits that make one of an empty one; whether a list of articles is one: the program's look. -/
import Derived.Test.YtikgaaaehoekaaaDoorSt1
namespace Go.Proofs.YtikgaaaehoekaaaDoor
open Go.ChangeShapes Go.WideShapes Go.ChangeAt Go.RowKit Go.Deep
set_option linter.unusedSimpArgs false
set_option linter.unusedVariables false
end Go.Proofs.YtikgaaaehoekaaaDoor

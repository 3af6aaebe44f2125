/- The operations on fractions by contracts, the exported ones of the program. -/
import Derived.Test.YtgoocglcgkfgmaaDoorSOps
namespace Go.Proofs.YtgoocglcgkfgmaaDoor
open Go.ChangeShapes Go.WideShapes Go.ChangeAt Go.RowKit

end Go.Proofs.YtgoocglcgkfgmaaDoor

/- The operations on fractions by contracts, the exported ones of the program. -/
import Derived.Test.YtcoelccmfljlhaaDoorSOps
namespace Go.Proofs.YtcoelccmfljlhaaDoor
open Go.ChangeShapes Go.WideShapes Go.ChangeAt Go.RowKit

end Go.Proofs.YtcoelccmfljlhaaDoor

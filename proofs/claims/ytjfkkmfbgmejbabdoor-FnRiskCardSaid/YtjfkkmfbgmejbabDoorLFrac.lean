/- Laws on fractions, walked: FractionOf. -/
import Derived.Test.YtjfkkmfbgmejbabDoorFOf
namespace Go.Proofs.YtjfkkmfbgmejbabDoor
open Go.ChangeShapes Go.WideShapes Go.ChangeAt Go.RowKit
end Go.Proofs.YtjfkkmfbgmejbabDoor

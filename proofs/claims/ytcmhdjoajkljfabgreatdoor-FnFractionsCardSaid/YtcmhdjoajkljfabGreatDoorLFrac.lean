/- Laws on fractions, walked: FractionOf. -/
import Derived.Test.YtcmhdjoajkljfabGreatDoorFOf
namespace Go.Proofs.YtcmhdjoajkljfabGreatDoor
open Go.ChangeShapes Go.WideShapes Go.ChangeAt Go.RowKit
end Go.Proofs.YtcmhdjoajkljfabGreatDoor

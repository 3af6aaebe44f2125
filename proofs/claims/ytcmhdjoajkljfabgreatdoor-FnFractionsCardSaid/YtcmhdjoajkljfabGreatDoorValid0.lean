/- toFraction by its contract. -/
import Derived.Test.YtcmhdjoajkljfabGreatDoorBase
namespace Go.Proofs.YtcmhdjoajkljfabGreatDoor
open Go.ChangeShapes Go.WideShapes Go.ChangeAt Go.RowKit
end Go.Proofs.YtcmhdjoajkljfabGreatDoor

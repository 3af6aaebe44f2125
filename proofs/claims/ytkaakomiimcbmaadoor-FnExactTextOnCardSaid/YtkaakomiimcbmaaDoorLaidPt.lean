/- A world that meets the lists of the laws on patches: Go's own two tables of UTF-8, which the walks never read. -/
import Derived.Test.YtkaakomiimcbmaaDoorCards
import Derived.Test.YtkaakomiimcbmaaDoorTie
import Derived.WalkKit
import Derived.ProofKit
import Derived.OpenShut
import Derived.LaidHandle
import Derived.Deep.DeepHandedRow
import Derived.Lib.LaidTab
import Derived.Stop.LaidErr
namespace Go.Proofs.YtkaakomiimcbmaaDoor
open Go.ChangeShapes Go.WideShapes Go.ChangeAt Go.RowKit
def aggCells2 : DataW Unit → Array Value
  | .agg l => (l.flatMap fun x => match x with
    | .lit (.int k z) => [Value.int k z]
    | .agg m => m.map (fun y => match y with
      | .lit (.int k z) => Value.int k z
      | _ => undef)
    | _ => [undef]).toArray
  | _ => #[]
def layTab2 (x : Nat × DataW Unit) (h : Array Obj) : Array Obj := h.modify x.1 fun
  | .cells _ t frozen => .cells (aggCells2 x.2) t frozen
  | o => o
noncomputable def pt_world (os : Os) : World :=
  let w0 := World.holding Tryd.prog os ⟨#[], #[], []⟩
  { w0 with heap := [(1, Rows.laid_unicode_utf8_acceptRanges), (0, Rows.laid_unicode_utf8_first)].foldr layTab2 w0.heap }
set_option maxRecDepth 100000 in
theorem pt_met (os : Os) (args : Array Value) : laidMetH Tryd.prog [("unicode/utf8.acceptRanges", Rows.laid_unicode_utf8_acceptRanges), ("unicode/utf8.first", Rows.laid_unicode_utf8_first)] ((pt_world os).forCall (fun _ _ => 0) ⟨#[], args, []⟩).memory := by
  show laidMet _ _ _
  exact laidMet_of_run' 8 (by kernel_rfl) (by kernel_rfl)
end Go.Proofs.YtkaakomiimcbmaaDoor

/- The operations on fractions by contracts, the specification's. -/
import Derived.Test.YtjfkkmfbgmejbabDoorOps
namespace Go.Proofs.YtjfkkmfbgmejbabDoor
open Go.ChangeShapes Go.WideShapes Go.ChangeAt Go.RowKit
def frP (b : Bool) (x y : Int) (w : World) (e : Ending) (w' : World) : Prop := e = .returned (.tuple #[.agg #[.int .i64 x, .int .i64 y], .bool b]) ∧ Below w.heap.size w w'
theorem mk_any (n d : Int) (w : World) (hd : d ≠ 0) (h1 : -4000000000000000000 ≤ n) (h2 : n ≤ 4000000000000000000) (h3 : -4000000000000000000 ≤ d) (h4 : d ≤ 4000000000000000000) :
    Calls Tryd.prog 85 #[.int .i64 n, .int .i64 d] w (frP (gB true n d) (gN true n d) (gD true n d) w) := make_any n d w hd h1 h2 h3 h4

theorem g_no' {p : Bool} {n d : Int} (h : p = false) : gB p n d = false ∧ gN p n d = 0 ∧ gD p n d = 0 := by subst h; simp [gB, gN, gD]

end Go.Proofs.YtjfkkmfbgmejbabDoor

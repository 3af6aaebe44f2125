/- What the listed tables give the walks of the laws on texts, and worlds that meet their lists. -/
import Derived.Test.YtlpidgdlbannbabDoorCards
import Derived.Test.YtlpidgdlbannbabDoorTie
import Derived.Test.YtlpidgdlbannbabDoorDecI
import Derived.WalkKit
import Derived.ProofKit
import Derived.OpenShut
import Derived.LaidHandle
import Derived.Deep.DeepHandedRow
import Derived.Lib.LaidTab
import Derived.Stop.LaidErr
namespace Go.Proofs.YtlpidgdlbannbabDoor
open Go.ChangeShapes Go.WideShapes Go.ChangeAt Go.RowKit
theorem powTy : (Tryd.prog.globals[1]?).map (·.type) = some 80 := by kernel_rfl
theorem powCells : Tryd.prog.cellsOf 80 = 20 := by kernel_rfl
theorem u64Cells : Tryd.prog.cellsOf 73 = 1 := by kernel_rfl
theorem powData : Rows.laid_internal_strconv_uint64pow10 = Lib.tabData (H := Unit) .u64 Lib.pow10Tab := by kernel_rfl
theorem powT_of {r : List (String × DataW Unit)} {W : World} (h : laidMet Tryd.prog (("internal/strconv.uint64pow10", Rows.laid_internal_strconv_uint64pow10) :: r) W) : PowT W := by
  rw [powData] at h
  exact Lib.tabIs_of_head powG powTy Tryd.underlying80 Tryd.underlying73 u64Cells powCells h
def aggCells : DataW Unit → Array Value
  | .agg l => (l.map fun x => match x with
    | .lit (.int k z) => Value.int k z
    | _ => undef).toArray
  | _ => #[]
def layTab (x : Nat × DataW Unit) (h : Array Obj) : Array Obj := h.modify x.1 fun
  | .cells _ t frozen => .cells (aggCells x.2) t frozen
  | o => o
noncomputable def tabs_world (os : Os) (l : List (Nat × DataW Unit)) : World :=
  let w0 := World.holding Tryd.prog os ⟨#[], #[], []⟩
  { w0 with heap := l.foldr layTab w0.heap }
noncomputable def dec_world (os : Os) : World := tabs_world os [(2, Rows.laid_math_bits_deBruijn32tab), (3, Rows.laid_math_bits_deBruijn64tab), (1, Rows.laid_internal_strconv_uint64pow10)]
theorem vtx_of_laid {W : World} (h : laidMetH Tryd.prog Rows.fnExactVoicesTextRow.laid W) : PowT W := by
  have h' : laidMet Tryd.prog Rows.fnExactVoicesTextRow.laid W := h
  exact powT_of (h'.tail.tail)
noncomputable def vtx_world (os : Os) : World := dec_world os
theorem vtx_met (os : Os) (args : Array Value) : laidMetH Tryd.prog Rows.fnExactVoicesTextRow.laid ((vtx_world os).forCall (fun _ _ => 0) ⟨#[], args, []⟩).memory := by
  show laidMet _ _ _
  exact laidMet_of_run' 8 (by kernel_rfl) (by kernel_rfl)
end Go.Proofs.YtlpidgdlbannbabDoor

/- What the listed tables give the walks of the laws on texts, and worlds that meet their lists. -/
import Derived.Test.YtikgaaaehoekaaaDoorCards
import Derived.Test.YtikgaaaehoekaaaDoorTie
import Derived.Test.YtikgaaaehoekaaaDoorDecI
import Derived.WalkKit
import Derived.ProofKit
import Derived.OpenShut
import Derived.LaidHandle
import Derived.Deep.DeepHandedRow
import Derived.Lib.LaidTab
import Derived.Stop.LaidErr
namespace Go.Proofs.YtikgaaaehoekaaaDoor
open Go.ChangeShapes Go.WideShapes Go.ChangeAt Go.RowKit
theorem powTy : (Tryd.prog.globals[0]?).map (·.type) = some 86 := by kernel_rfl
theorem powCells : Tryd.prog.cellsOf 86 = 20 := by kernel_rfl
theorem u64Cells : Tryd.prog.cellsOf 78 = 1 := by kernel_rfl
theorem powData : Rows.laid_internal_strconv_uint64pow10 = Lib.tabData (H := Unit) .u64 Lib.pow10Tab := by kernel_rfl
theorem powT_of {r : List (String × DataW Unit)} {W : World} (h : laidMet Tryd.prog (("internal/strconv.uint64pow10", Rows.laid_internal_strconv_uint64pow10) :: r) W) : PowT W := by
  rw [powData] at h
  exact Lib.tabIs_of_head powG powTy Tryd.underlying86 Tryd.underlying78 u64Cells powCells h
def aggCells2 : DataW Unit → Array Value
  | .agg l => (l.flatMap fun x => match x with
    | .lit (.int k z) => [Value.int k z]
    | .agg m => m.map (fun y => match y with
      | .lit (.int k z) => Value.int k z
      | _ => undef)
    | _ => [undef]).toArray
  | _ => #[]
def layTab2 (x : Nat × DataW Unit) (h : Array Obj) : Array Obj := h.modify x.1 fun
  | .cells _ t frozen => .cells (aggCells2 x.2) t frozen
  | o => o
noncomputable def qax_world (os : Os) : World :=
  let w0 := World.holding Tryd.prog os ⟨#[], #[], []⟩
  { w0 with heap := [(4, Rows.laid_math_bits_deBruijn32tab), (5, Rows.laid_math_bits_deBruijn64tab), (0, Rows.laid_internal_strconv_uint64pow10), (2, Rows.laid_unicode_utf8_acceptRanges), (1, Rows.laid_unicode_utf8_first)].foldr layTab2 w0.heap }
theorem qax_of_laid {W : World} (h : laidMetH Tryd.prog Rows.fnExactPatchTextRow.laid W) : PowT W := by
  have h' : laidMet Tryd.prog Rows.fnExactPatchTextRow.laid W := h
  exact powT_of (h'.tail.tail)
set_option maxRecDepth 100000 in
theorem qax_met (os : Os) (args : Array Value) : laidMetH Tryd.prog Rows.fnExactPatchTextRow.laid ((qax_world os).forCall (fun _ _ => 0) ⟨#[], args, []⟩).memory := by
  show laidMet _ _ _
  exact laidMet_of_run' 8 (by kernel_rfl) (by kernel_rfl)
end Go.Proofs.YtikgaaaehoekaaaDoor
